import PyProof.Rows.All
import Wide.All
import OpenK.AllK
import Wide.FinOn
import Lean
import PyProof.EqAt
import PyProof.EqKinds
import PyProof.TupleCall
import PyProof.CompFree
import KE.KSortAsk
import KE.KSortTup
import KE.KRevSl
import PyProof.AttrMissSeq
import KE.KDictOf
import KE.KxText
import PyProof.Rows.Range3
import PyProof.WalksMore
import PyProof.StationsW
import PyProof.Rows.Catch
import PyProof.ExcClass3
import PyProof.ExcBaseAll.ValueError
import OpenK.KOwn
import KE.KIsAll
import PyProof.FitsBits
import PyProof.ExcAttrAll.ValueError
import PyProof.ZipIter
import PyProof.Draws
import PyProof.TupleIter
import PyProof.Rows.ZipGen
import PyProof.Rows.InDataRows
import PyProof.ListMulRoad
import PyProof.StrOps2
import PyProof.FactsAll.tuple_2
import PySem.Challenge.RW_kinnames_k82_whole_together
section
namespace L2
open PySem
def inClass (s:Stmt) (j:Nat):Stmt:=match s with
  | .ClassDef _ _ _ body _ _ _ _ _ _ _=>body.getD j (.Pass ⟨0,0,0,0⟩)
  | _=>.Pass ⟨0,0,0,0⟩
def defArgs (s:Stmt):Arguments:=match s with
  | .FunctionDef _ a _ _ _ _ _ _ _ _=>a
  | _=>{ posonlyargs:=[],args:=[],vararg:=none,kwonlyargs:=[],kw_defaults:=[],kwarg:=none,defaults:=[] }
def defBody (s:Stmt):List Stmt:=match s with
  | .FunctionDef _ _ b _ _ _ _ _ _ _=>b
  | _=>[]
def defScope (s:Stmt):Scope:=match s with
  | .FunctionDef _ _ _ _ _ _ sc _ _ _=>sc
  | _=>{ kind:=.function,names:=[],isGenerator:=false,isCoroutine:=false }
end L2
namespace Kn
open PySem
def top (i:Nat):Stmt:=PySem.Challenge.pw_kinnames_k82_whole_together.main.body.getD i (.Pass ⟨0,0,0,0⟩)
end Kn
namespace Kn
open PySem PySem.W PyProof.Rows
def topRunT (tb:String→Option Builtin) (p:Program) (w:World) (n₀:Nat) (ann:Option Value):Nat→SharedT→Thread→Option SharedT
  | 0,_,_=>none
  | n + 1,s,t=>match through t with
    | true=>some s
    | false=>match stepOk n₀ ann t with
      | false=>none
      | true=>match stepT (denote tb) p w s t with
        | some (s',t')=>topRunT tb p w n₀ ann n s' t'
        | none=>none
theorem topRun_of {tb:String→Option Builtin} {p:Program} {w:World} {n₀:Nat} {ann:Option Value}:∀ {n:Nat} {s s':SharedT} {t:Thread},topRunT tb p w n₀ ann n s t = some s'→topRun tb p w n₀ ann n s.abs t = some s'.abs
  | 0,_,_,_,h=>by cases h
  | n + 1,s,s',t,h=>by
    unfold topRunT at h
    unfold topRun
    cases he:through t with
    | true=>rw [he] at h; cases h; rfl
    | false =>
      rw [he] at h
      cases hk:stepOk n₀ ann t with
      | false=>rw [hk] at h; cases h
      | true =>
        rw [hk] at h
        cases hs:stepT (denote tb) p w s t with
        | none=>rw [hs] at h; cases h
        | some r=>obtain ⟨s₂,t₂⟩:=r; rw [hs] at h; rw [stepT_spec hs]; exact topRun_of h
def insAll:List Obj→Nat→BT→Option BT
  | [],_,T=>some T
  | o :: os,n,T=>match ((T.ins n o).get n).isSome with
    | true=>insAll os (n + 1) (T.ins n o)
    | false=>none
theorem insAll_abs {life:Life}:∀ {os:List Obj} {n:Nat} {T T':BT},insAll os n T = some T'→(absHeap T' (n + os.length) life).objs.toList = (absHeap T n life).objs.toList ++ os
  | [],n,T,T',h=>by cases h; simp
  | o :: os,n,T,T',h=>by
    unfold insAll at h
    cases hi:((T.ins n o).get n).isSome with
    | false=>rw [hi] at h; cases h
    | true =>
      rw [hi] at h
      have h1:=insAll_abs (life:=life) h
      have h2:=absHeap_ins (life:=life) hi
      have e:n + 1 + os.length = n + (o :: os).length:=by rw [List.length_cons]; omega
      rw [← e,h1,h2]
      show ((absHeap T n life).objs.push o).toList ++ os = _
      rw [Array.toList_push,List.append_assoc]; rfl
theorem insAll_of {s:Shared} {T:BT} (h:insAll s.heap.objs.toList 0 .nil = some T):(SharedT.mk T s.heap.objs.size s.heap.life s.gens s.drawn s.toks s.os).abs = s:=by
  have h1:=insAll_abs (life:=s.heap.life) h
  have e0:(absHeap .nil 0 s.heap.life).objs.toList = []:=rfl
  have e1:0 + s.heap.objs.toList.length = s.heap.objs.size:=by rw [Nat.zero_add]; rfl
  rw [e0,List.nil_append,e1] at h1
  have h2:absHeap T s.heap.objs.size s.heap.life = s.heap:=by
    have h3:(absHeap T s.heap.objs.size s.heap.life).objs = s.heap.objs:=Array.toList_inj.mp h1
    have h4:(absHeap T s.heap.objs.size s.heap.life).life = s.heap.life:=rfl
    generalize absHeap T s.heap.objs.size s.heap.life = A at h3 h4
    cases A
    obtain ⟨⟨o,l⟩,_,_,_,_⟩:=s
    subst h3 h4
    rfl
  unfold SharedT.abs
  dsimp only
  rw [h2]
def topFromT (tb:String→Option Builtin) (p:Program) (w:World) (N:Nat) (s₀:Shared) (T₀:SharedT):Option Shared :=
  match s₀.heap.isNs mainGlobals && s₀.gens.size == 0 with
  | true=>(topRunT tb p w s₀.heap.objs.size (s₀.heap.nsMap mainGlobals "__annotations__") N T₀ (topStub p)).bind fun t₁=>match staticsOk (importedModules p.main.body) s₀.heap t₁.abs.heap && namesBound p t₁.abs.heap && gensDone t₁.abs && laidKept s₀.heap t₁.abs.heap with
      | true=>some t₁.abs
      | false=>none
  | false=>none
theorem topFrom_of {tb:String→Option Builtin} {p:Program} {w:World} {N:Nat} {s₀:Shared} {T₀:SharedT} {s₁:Shared} (e:T₀.abs = s₀) (h:topFromT tb p w N s₀ T₀ = some s₁):topFrom tb p w N s₀ = some s₁:=by
  unfold topFromT at h
  unfold topFrom
  cases hb:s₀.heap.isNs mainGlobals && s₀.gens.size == 0 with
  | false=>rw [hb] at h; cases h
  | true =>
    rw [hb] at h
    dsimp only at h ⊢
    obtain ⟨t₁,h1,h2⟩:=Option.bind_eq_some_iff.mp h
    have h3:=topRun_of h1
    rw [e] at h3
    rw [h3]
    exact h2
def openEndsT (tb:String→Option Builtin) (p:Program) (w:World) (N:Nat):Option Shared:=(fencedOpening tb p w N).bind fun s₀=>(insAll s₀.heap.objs.toList 0 .nil).bind fun T=>topFromT tb p w N s₀ ⟨T,s₀.heap.objs.size,s₀.heap.life,s₀.gens,s₀.drawn,s₀.toks,s₀.os⟩
theorem openEnds_of {tb:String→Option Builtin} {p:Program} {w:World} {N:Nat} {s₁:Shared} (h:openEndsT tb p w N = some s₁):openEnds tb p w N = some s₁:=by
  obtain ⟨s₀,h1,h2⟩:=Option.bind_eq_some_iff.mp h
  obtain ⟨T,h3,h4⟩:=Option.bind_eq_some_iff.mp h2
  unfold openEnds
  rw [h1]
  exact topFrom_of (insAll_of h3) h4
theorem openMap_of {tb:String→Option Builtin} {p:Program} {w:World} {N:Nat} {α:Type} {F:Shared→α} {r:α} (h:(openEndsT tb p w N).map F = some r):(openEnds tb p w N).map F = some r:=by
  obtain ⟨s₁,h1,h2⟩:=Option.map_eq_some_iff.mp h
  rw [openEnds_of h1,Option.map_some,h2]
end Kn
open PySem PySem.W PyProof.Rows
set_option Elab.async false
set_option maxRecDepth 100000
set_option maxHeartbeats 0
namespace Kn
open L2
def kE (P:Params) (x:Str) (t:Nat) (v:Value):DictEntry:=⟨PyData.keyHash P x,.str x t,v⟩
def kF (s:Stmt) (nm qn:Str) (df kd doc pm:Value) (an:Option Addr) (cd ct:Value) (c:Value) (d:Option Addr) (sl:Array (Option Value)):Obj :=
  ⟨c,d,.func (PySem.W.fnOf nm qn (defArgs s) (defBody s) (defScope s) df kd doc pm an cd ct),sl⟩
noncomputable def kfr:Params→Frag:=fun P=>(nat_lit 2,⟨.none,none,.dict #[] 0,#[]⟩) ::
  (nat_lit 3,⟨(.type "dict"),none,.dict #[kE P (.ofString "__name__") 165 (.str (.ofString "law_kinnames_k82_whole_together") 620),kE P (.ofString "__doc__") 166 .none,kE P (.ofString "__package__") 167 .none,kE P (.ofString "__loader__") 168 (.builtin "__main__.__loader__#opaque"),kE P (.ofString "__spec__") 169 .none,kE P (.ofString "__annotations__") 170 (.ref 6),kE P (.ofString "__builtins__") 171 (.ref 4),kE P (.ofString "__file__") 173 (.str (.ofString "/claim/cut.py") 172),kE P (.ofString "__cached__") 174 .none,kE P (.ofString "LikeError") 206 (.ref 24),kE P (.ofString "NoBook") 222 (.ref 37),kE P (.ofString "NoOrder") 238 (.ref 49),kE P (.ofString "NoName") 254 (.ref 61),kE P (.ofString "NoNumber") 270 (.ref 73),kE P (.ofString "LETTERS") 274 (.str (.ofString "abcdefghijklmnopqrstuvwxyz") 273),kE P (.ofString "MOST_LETTERS") 276 (.int (8) 275),kE P (.ofString "MOST_NAMES") 278 (.int (8) 277),kE P (.ofString "MOST_ORDER") 280 (.int (3) 279),kE P (.ofString "is_name") 286 (.ref 80),kE P (.ofString "is_book") 292 (.ref 85),kE P (.ofString "is_whole") 301 (.ref 92),kE P (.ofString "is_order") 308 (.ref 99),kE P (.ofString "need_book") 315 (.ref 106),kE P (.ofString "need_order") 322 (.ref 113),kE P (.ofString "need_whole") 331 (.ref 120),kE P (.ofString "need_name") 338 (.ref 127),kE P (.ofString "end_of") 346 (.ref 134),kE P (.ofString "ends_and_letters") 352 (.ref 139),kE P (.ofString "counted_rows") 365 (.ref 146),kE P (.ofString "table") 371 (.ref 151),kE P (.ofString "NOUGHT") 376 (.ref 152),kE P (.ofString "WHOLE") 379 (.ref 153),kE P (.ofString "greatest_divisor") 388 (.ref 160),kE P (.ofString "lowest") 397 (.ref 167),kE P (.ofString "times") 405 (.ref 174),kE P (.ofString "is_less") 413 (.ref 181),kE P (.ofString "part_in") 421 (.ref 188),kE P (.ofString "steps_by_rows") 427 (.ref 193),kE P (.ofString "share_by_rows") 438 (.ref 200),kE P (.ofString "share") 447 (.ref 207),kE P (.ofString "makes") 456 (.ref 214),kE P (.ofString "mixed") 467 (.ref 221),kE P (.ofString "shared_ends") 473 (.ref 226),kE P (.ofString "next_firsts") 489 (.ref 233),kE P (.ofString "ends_by_rows_alone") 498 (.ref 240),kE P (.ofString "lacking") 504 (.ref 245),kE P (.ofString "makes_all") 513 (.ref 252),kE P (.ofString "ANY") 517 (.str (.ofString "") 516),kE P (.ofString "even_parts") 523 (.ref 257),kE P (.ofString "left_of") 531 (.ref 264),kE P (.ofString "may_follow") 539 (.ref 271),kE P (.ofString "next_sums") 555 (.ref 278),kE P (.ofString "sum_along") 561 (.ref 283),kE P (.ofString "need_length") 570 (.ref 290),kE P (.ofString "how_many_by_rows") 579 (.ref 297),kE P (.ofString "how_many") 588 (.ref 304),kE P (.ofString "letters_towards") 594 (.ref 309),kE P (.ofString "closing_ends") 600 (.ref 314),kE P (.ofString "lengthened") 606 (.ref 319),kE P (.ofString "all_made") 619 (.ref 326),kE P (.ofString "_law_cell") 629 (.ref 333),kE P (.ofString "_law_drawn") 639 (.ref 340),kE P (.ofString "_law_name") 645 (.ref 345),kE P (.ofString "_law_book") 657 (.ref 352),kE P (.ofString "law") 663 (.ref 357)] 65,#[]⟩) ::
  (nat_lit 23,⟨(.type "dict"),none,.dict #[kE P (.ofString "__module__") 196 (.str (.ofString "kinnames.errors") 187),kE P (.ofString "__firstlineno__") 200 (.int (2) 199),kE P (.ofString "__static_attributes__") 201 (.ref 22),kE P (.ofString "__weakref__") 203 (.ref 25),kE P (.ofString "__doc__") 204 .none] 3,#[]⟩) ::
  (nat_lit 24,⟨(.type "type"),none,.cls ⟨(.ofString "LikeError"),[(.type "ValueError")],[(.ref 24),(.type "ValueError"),(.type "Exception"),(.type "BaseException"),(.type "object")],23,(.ofString "LikeError"),true,[],[(.ref 37),(.ref 49),(.ref 61),(.ref 73)],false,none,false⟩,#[(some (.ref 15)),none,(some (.str (.ofString "LikeError") 189)),(some (.str (.ofString "LikeError") 197)),(some (.builtin "ValueError.__new__")),(some (.bool true))]⟩) ::
  (nat_lit 25,⟨(.type "getset_descriptor"),none,.fields #[(.str (.ofString "__weakref__") 202),(.ref 24),(.builtin "ExceptionGroup.__weakref__"),.none],#[]⟩) ::
  (nat_lit 36,⟨(.type "dict"),none,.dict #[kE P (.ofString "__module__") 214 (.str (.ofString "kinnames.errors") 187),kE P (.ofString "__firstlineno__") 218 (.int (4) 217),kE P (.ofString "__static_attributes__") 219 (.ref 35),kE P (.ofString "__doc__") 220 .none] 2,#[]⟩) ::
  (nat_lit 37,⟨(.type "type"),none,.cls ⟨(.ofString "NoBook"),[(.ref 24)],[(.ref 37),(.ref 24),(.type "ValueError"),(.type "Exception"),(.type "BaseException"),(.type "object")],36,(.ofString "NoBook"),true,[],[],false,none,false⟩,#[(some (.ref 28)),none,(some (.str (.ofString "NoBook") 207)),(some (.str (.ofString "NoBook") 215)),(some (.builtin "ValueError.__new__")),(some (.bool true))]⟩) ::
  (nat_lit 48,⟨(.type "dict"),none,.dict #[kE P (.ofString "__module__") 230 (.str (.ofString "kinnames.errors") 187),kE P (.ofString "__firstlineno__") 234 (.int (6) 233),kE P (.ofString "__static_attributes__") 235 (.ref 47),kE P (.ofString "__doc__") 236 .none] 2,#[]⟩) ::
  (nat_lit 49,⟨(.type "type"),none,.cls ⟨(.ofString "NoOrder"),[(.ref 24)],[(.ref 49),(.ref 24),(.type "ValueError"),(.type "Exception"),(.type "BaseException"),(.type "object")],48,(.ofString "NoOrder"),true,[],[],false,none,false⟩,#[(some (.ref 40)),none,(some (.str (.ofString "NoOrder") 223)),(some (.str (.ofString "NoOrder") 231)),(some (.builtin "ValueError.__new__")),(some (.bool true))]⟩) ::
  (nat_lit 60,⟨(.type "dict"),none,.dict #[kE P (.ofString "__module__") 246 (.str (.ofString "kinnames.errors") 187),kE P (.ofString "__firstlineno__") 250 (.int (8) 249),kE P (.ofString "__static_attributes__") 251 (.ref 59),kE P (.ofString "__doc__") 252 .none] 2,#[]⟩) ::
  (nat_lit 61,⟨(.type "type"),none,.cls ⟨(.ofString "NoName"),[(.ref 24)],[(.ref 61),(.ref 24),(.type "ValueError"),(.type "Exception"),(.type "BaseException"),(.type "object")],60,(.ofString "NoName"),true,[],[],false,none,false⟩,#[(some (.ref 52)),none,(some (.str (.ofString "NoName") 239)),(some (.str (.ofString "NoName") 247)),(some (.builtin "ValueError.__new__")),(some (.bool true))]⟩) ::
  (nat_lit 72,⟨(.type "dict"),none,.dict #[kE P (.ofString "__module__") 262 (.str (.ofString "kinnames.errors") 187),kE P (.ofString "__firstlineno__") 266 (.int (10) 265),kE P (.ofString "__static_attributes__") 267 (.ref 71),kE P (.ofString "__doc__") 268 .none] 2,#[]⟩) ::
  (nat_lit 73,⟨(.type "type"),none,.cls ⟨(.ofString "NoNumber"),[(.ref 24)],[(.ref 73),(.ref 24),(.type "ValueError"),(.type "Exception"),(.type "BaseException"),(.type "object")],72,(.ofString "NoNumber"),true,[],[],false,none,false⟩,#[(some (.ref 64)),none,(some (.str (.ofString "NoNumber") 255)),(some (.str (.ofString "NoNumber") 263)),(some (.builtin "ValueError.__new__")),(some (.bool true))]⟩) ::
  (nat_lit 79,⟨(.type "code"),none,.fields #[(.str (.ofString "is_name") 281),(.str (.ofString "is_name") 282),(.str (.ofString "/claim/cut.py") 283),(.int (17) 0),(.int (1) 0),(.int (0) 0),(.int (0) 0),(.int (3) 0),(.ref 76),(.bool true),(.int (181) 0),(.ref 77),.none,.none,.none,(.ref 78),(.int (284) 0),(.int (17) 0),(.str (.ofString "/claim/cut.py") 285)],#[]⟩) ::
  (nat_lit 80,kF (top 11) (.ofString "is_name") (.ofString "is_name") .none .none .none (.str (.ofString "kinnames.books") 271) none (.ref 79) .none (.type "function") none #[]) ::
  (nat_lit 84,⟨(.type "code"),none,.fields #[(.str (.ofString "is_book") 287),(.str (.ofString "is_book") 288),(.str (.ofString "/claim/cut.py") 289),(.int (21) 0),(.int (1) 0),(.int (0) 0),(.int (0) 0),(.int (3) 0),(.ref 81),(.bool true),(.int (181) 0),(.ref 82),.none,.none,.none,(.ref 83),(.int (290) 0),(.int (21) 0),(.str (.ofString "/claim/cut.py") 291)],#[]⟩) ::
  (nat_lit 85,kF (top 12) (.ofString "is_book") (.ofString "is_book") .none .none .none (.str (.ofString "kinnames.books") 271) none (.ref 84) .none (.type "function") none #[]) ::
  (nat_lit 91,⟨(.type "code"),none,.fields #[(.str (.ofString "is_whole") 293),(.str (.ofString "is_whole") 294),(.str (.ofString "/claim/cut.py") 295),(.int (25) 0),(.int (3) 0),(.int (0) 0),(.int (0) 0),(.int (3) 0),(.ref 86),(.bool true),(.int (181) 0),(.ref 87),.none,(.ref 88),(.ref 89),(.ref 90),(.int (299) 0),(.int (25) 0),(.str (.ofString "/claim/cut.py") 300)],#[]⟩) ::
  (nat_lit 92,kF (top 13) (.ofString "is_whole") (.ofString "is_whole") .none .none .none (.str (.ofString "kinnames.books") 271) none (.ref 91) .none (.type "function") none #[]) ::
  (nat_lit 98,⟨(.type "code"),none,.fields #[(.str (.ofString "is_order") 302),(.str (.ofString "is_order") 303),(.str (.ofString "/claim/cut.py") 304),(.int (29) 0),(.int (1) 0),(.int (0) 0),(.int (0) 0),(.int (3) 0),(.ref 93),(.bool true),(.int (181) 0),(.ref 94),.none,(.ref 95),(.ref 96),(.ref 97),(.int (306) 0),(.int (29) 0),(.str (.ofString "/claim/cut.py") 307)],#[]⟩) ::
  (nat_lit 99,kF (top 14) (.ofString "is_order") (.ofString "is_order") .none .none .none (.str (.ofString "kinnames.books") 271) none (.ref 98) .none (.type "function") none #[]) ::
  (nat_lit 105,⟨(.type "code"),none,.fields #[(.str (.ofString "need_book") 309),(.str (.ofString "need_book") 310),(.str (.ofString "/claim/cut.py") 311),(.int (31) 0),(.int (1) 0),(.int (0) 0),(.int (0) 0),(.int (3) 0),(.ref 100),(.bool true),(.int (181) 0),(.ref 101),.none,(.ref 102),(.ref 103),(.ref 104),(.int (313) 0),(.int (31) 0),(.str (.ofString "/claim/cut.py") 314)],#[]⟩) ::
  (nat_lit 106,kF (top 15) (.ofString "need_book") (.ofString "need_book") .none .none .none (.str (.ofString "kinnames.books") 271) none (.ref 105) .none (.type "function") none #[]) ::
  (nat_lit 112,⟨(.type "code"),none,.fields #[(.str (.ofString "need_order") 316),(.str (.ofString "need_order") 317),(.str (.ofString "/claim/cut.py") 318),(.int (34) 0),(.int (1) 0),(.int (0) 0),(.int (0) 0),(.int (3) 0),(.ref 107),(.bool true),(.int (181) 0),(.ref 108),.none,(.ref 109),(.ref 110),(.ref 111),(.int (320) 0),(.int (34) 0),(.str (.ofString "/claim/cut.py") 321)],#[]⟩) ::
  (nat_lit 113,kF (top 16) (.ofString "need_order") (.ofString "need_order") .none .none .none (.str (.ofString "kinnames.books") 271) none (.ref 112) .none (.type "function") none #[]) ::
  (nat_lit 119,⟨(.type "code"),none,.fields #[(.str (.ofString "need_whole") 323),(.str (.ofString "need_whole") 324),(.str (.ofString "/claim/cut.py") 325),(.int (37) 0),(.int (3) 0),(.int (0) 0),(.int (0) 0),(.int (3) 0),(.ref 114),(.bool true),(.int (181) 0),(.ref 115),.none,(.ref 116),(.ref 117),(.ref 118),(.int (329) 0),(.int (37) 0),(.str (.ofString "/claim/cut.py") 330)],#[]⟩) ::
  (nat_lit 120,kF (top 17) (.ofString "need_whole") (.ofString "need_whole") .none .none .none (.str (.ofString "kinnames.books") 271) none (.ref 119) .none (.type "function") none #[]) ::
  (nat_lit 126,⟨(.type "code"),none,.fields #[(.str (.ofString "need_name") 332),(.str (.ofString "need_name") 333),(.str (.ofString "/claim/cut.py") 334),(.int (40) 0),(.int (1) 0),(.int (0) 0),(.int (0) 0),(.int (3) 0),(.ref 121),(.bool true),(.int (181) 0),(.ref 122),.none,(.ref 123),(.ref 124),(.ref 125),(.int (336) 0),(.int (40) 0),(.str (.ofString "/claim/cut.py") 337)],#[]⟩) ::
  (nat_lit 127,kF (top 18) (.ofString "need_name") (.ofString "need_name") .none .none .none (.str (.ofString "kinnames.books") 271) none (.ref 126) .none (.type "function") none #[]) ::
  (nat_lit 133,⟨(.type "code"),none,.fields #[(.str (.ofString "end_of") 339),(.str (.ofString "end_of") 340),(.str (.ofString "/claim/cut.py") 341),(.int (43) 0),(.int (2) 0),(.int (0) 0),(.int (0) 0),(.int (3) 0),(.ref 128),(.bool true),(.int (181) 0),(.ref 129),.none,(.ref 130),(.ref 131),(.ref 132),(.int (344) 0),(.int (43) 0),(.str (.ofString "/claim/cut.py") 345)],#[]⟩) ::
  (nat_lit 134,kF (top 19) (.ofString "end_of") (.ofString "end_of") .none .none .none (.str (.ofString "kinnames.books") 271) none (.ref 133) .none (.type "function") none #[]) ::
  (nat_lit 138,⟨(.type "code"),none,.fields #[(.str (.ofString "ends_and_letters") 347),(.str (.ofString "ends_and_letters") 348),(.str (.ofString "/claim/cut.py") 349),(.int (45) 0),(.int (2) 0),(.int (0) 0),(.int (0) 0),(.int (3) 0),(.ref 135),(.bool true),(.int (181) 0),(.ref 136),.none,.none,.none,(.ref 137),(.int (350) 0),(.int (45) 0),(.str (.ofString "/claim/cut.py") 351)],#[]⟩) ::
  (nat_lit 139,kF (top 20) (.ofString "ends_and_letters") (.ofString "ends_and_letters") .none .none .none (.str (.ofString "kinnames.books") 271) none (.ref 138) .none (.type "function") none #[]) ::
  (nat_lit 145,⟨(.type "code"),none,.fields #[(.str (.ofString "counted_rows") 353),(.str (.ofString "counted_rows") 354),(.str (.ofString "/claim/cut.py") 355),(.int (47) 0),(.int (2) 0),(.int (0) 0),(.int (0) 0),(.int (3) 0),(.ref 140),(.bool true),(.int (181) 0),(.ref 141),.none,(.ref 142),(.ref 143),(.ref 144),(.int (363) 0),(.int (47) 0),(.str (.ofString "/claim/cut.py") 364)],#[]⟩) ::
  (nat_lit 146,kF (top 21) (.ofString "counted_rows") (.ofString "counted_rows") .none .none .none (.str (.ofString "kinnames.books") 271) none (.ref 145) .none (.type "function") none #[]) ::
  (nat_lit 150,⟨(.type "code"),none,.fields #[(.str (.ofString "table") 366),(.str (.ofString "table") 367),(.str (.ofString "/claim/cut.py") 368),(.int (54) 0),(.int (2) 0),(.int (0) 0),(.int (0) 0),(.int (3) 0),(.ref 147),(.bool true),(.int (181) 0),(.ref 148),.none,.none,.none,(.ref 149),(.int (369) 0),(.int (54) 0),(.str (.ofString "/claim/cut.py") 370)],#[]⟩) ::
  (nat_lit 151,kF (top 22) (.ofString "table") (.ofString "table") .none .none .none (.str (.ofString "kinnames.books") 271) none (.ref 150) .none (.type "function") none #[]) ::
  (nat_lit 152,⟨(.type "tuple"),none,.seq #[(.int (0) 374),(.int (1) 375)] 0,#[]⟩) ::
  (nat_lit 153,⟨(.type "tuple"),none,.seq #[(.int (1) 377),(.int (1) 378)] 0,#[]⟩) ::
  (nat_lit 159,⟨(.type "code"),none,.fields #[(.str (.ofString "greatest_divisor") 380),(.str (.ofString "greatest_divisor") 381),(.str (.ofString "/claim/cut.py") 382),(.int (62) 0),(.int (2) 0),(.int (0) 0),(.int (0) 0),(.int (3) 0),(.ref 154),(.bool true),(.int (181) 0),(.ref 155),.none,(.ref 156),(.ref 157),(.ref 158),(.int (386) 0),(.int (62) 0),(.str (.ofString "/claim/cut.py") 387)],#[]⟩) ::
  (nat_lit 160,kF (top 26) (.ofString "greatest_divisor") (.ofString "greatest_divisor") .none .none .none (.str (.ofString "kinnames.shares") 372) none (.ref 159) .none (.type "function") none #[]) ::
  (nat_lit 166,⟨(.type "code"),none,.fields #[(.str (.ofString "lowest") 389),(.str (.ofString "lowest") 390),(.str (.ofString "/claim/cut.py") 391),(.int (68) 0),(.int (2) 0),(.int (0) 0),(.int (0) 0),(.int (3) 0),(.ref 161),(.bool true),(.int (181) 0),(.ref 162),.none,(.ref 163),(.ref 164),(.ref 165),(.int (395) 0),(.int (68) 0),(.str (.ofString "/claim/cut.py") 396)],#[]⟩) ::
  (nat_lit 167,kF (top 27) (.ofString "lowest") (.ofString "lowest") .none .none .none (.str (.ofString "kinnames.shares") 372) none (.ref 166) .none (.type "function") none #[]) ::
  (nat_lit 173,⟨(.type "code"),none,.fields #[(.str (.ofString "times") 398),(.str (.ofString "times") 399),(.str (.ofString "/claim/cut.py") 400),(.int (71) 0),(.int (2) 0),(.int (0) 0),(.int (0) 0),(.int (3) 0),(.ref 168),(.bool true),(.int (181) 0),(.ref 169),.none,(.ref 170),(.ref 171),(.ref 172),(.int (403) 0),(.int (71) 0),(.str (.ofString "/claim/cut.py") 404)],#[]⟩) ::
  (nat_lit 174,kF (top 28) (.ofString "times") (.ofString "times") .none .none .none (.str (.ofString "kinnames.shares") 372) none (.ref 173) .none (.type "function") none #[]) ::
  (nat_lit 180,⟨(.type "code"),none,.fields #[(.str (.ofString "is_less") 406),(.str (.ofString "is_less") 407),(.str (.ofString "/claim/cut.py") 408),(.int (73) 0),(.int (2) 0),(.int (0) 0),(.int (0) 0),(.int (3) 0),(.ref 175),(.bool true),(.int (181) 0),(.ref 176),.none,(.ref 177),(.ref 178),(.ref 179),(.int (411) 0),(.int (73) 0),(.str (.ofString "/claim/cut.py") 412)],#[]⟩) ::
  (nat_lit 181,kF (top 29) (.ofString "is_less") (.ofString "is_less") .none .none .none (.str (.ofString "kinnames.shares") 372) none (.ref 180) .none (.type "function") none #[]) ::
  (nat_lit 187,⟨(.type "code"),none,.fields #[(.str (.ofString "part_in") 414),(.str (.ofString "part_in") 415),(.str (.ofString "/claim/cut.py") 416),(.int (75) 0),(.int (2) 0),(.int (0) 0),(.int (0) 0),(.int (3) 0),(.ref 182),(.bool true),(.int (181) 0),(.ref 183),.none,(.ref 184),(.ref 185),(.ref 186),(.int (419) 0),(.int (75) 0),(.str (.ofString "/claim/cut.py") 420)],#[]⟩) ::
  (nat_lit 188,kF (top 30) (.ofString "part_in") (.ofString "part_in") .none .none .none (.str (.ofString "kinnames.shares") 372) none (.ref 187) .none (.type "function") none #[]) ::
  (nat_lit 192,⟨(.type "code"),none,.fields #[(.str (.ofString "steps_by_rows") 422),(.str (.ofString "steps_by_rows") 423),(.str (.ofString "/claim/cut.py") 424),(.int (79) 0),(.int (3) 0),(.int (0) 0),(.int (0) 0),(.int (3) 0),(.ref 189),(.bool true),(.int (181) 0),(.ref 190),.none,.none,.none,(.ref 191),(.int (425) 0),(.int (79) 0),(.str (.ofString "/claim/cut.py") 426)],#[]⟩) ::
  (nat_lit 193,kF (top 31) (.ofString "steps_by_rows") (.ofString "steps_by_rows") .none .none .none (.str (.ofString "kinnames.shares") 372) none (.ref 192) .none (.type "function") none #[]) ::
  (nat_lit 199,⟨(.type "code"),none,.fields #[(.str (.ofString "share_by_rows") 428),(.str (.ofString "share_by_rows") 429),(.str (.ofString "/claim/cut.py") 430),(.int (81) 0),(.int (3) 0),(.int (0) 0),(.int (0) 0),(.int (3) 0),(.ref 194),(.bool true),(.int (181) 0),(.ref 195),.none,(.ref 196),(.ref 197),(.ref 198),(.int (436) 0),(.int (81) 0),(.str (.ofString "/claim/cut.py") 437)],#[]⟩) ::
  (nat_lit 200,kF (top 32) (.ofString "share_by_rows") (.ofString "share_by_rows") .none .none .none (.str (.ofString "kinnames.shares") 372) none (.ref 199) .none (.type "function") none #[]) ::
  (nat_lit 206,⟨(.type "code"),none,.fields #[(.str (.ofString "share") 439),(.str (.ofString "share") 440),(.str (.ofString "/claim/cut.py") 441),(.int (86) 0),(.int (3) 0),(.int (0) 0),(.int (0) 0),(.int (3) 0),(.ref 201),(.bool true),(.int (181) 0),(.ref 202),.none,(.ref 203),(.ref 204),(.ref 205),(.int (445) 0),(.int (86) 0),(.str (.ofString "/claim/cut.py") 446)],#[]⟩) ::
  (nat_lit 207,kF (top 33) (.ofString "share") (.ofString "share") .none .none .none (.str (.ofString "kinnames.shares") 372) none (.ref 206) .none (.type "function") none #[]) ::
  (nat_lit 213,⟨(.type "code"),none,.fields #[(.str (.ofString "makes") 448),(.str (.ofString "makes") 449),(.str (.ofString "/claim/cut.py") 450),(.int (91) 0),(.int (3) 0),(.int (0) 0),(.int (0) 0),(.int (3) 0),(.ref 208),(.bool true),(.int (181) 0),(.ref 209),.none,(.ref 210),(.ref 211),(.ref 212),(.int (454) 0),(.int (91) 0),(.str (.ofString "/claim/cut.py") 455)],#[]⟩) ::
  (nat_lit 214,kF (top 34) (.ofString "makes") (.ofString "makes") .none .none .none (.str (.ofString "kinnames.shares") 372) none (.ref 213) .none (.type "function") none #[]) ::
  (nat_lit 220,⟨(.type "code"),none,.fields #[(.str (.ofString "mixed") 459),(.str (.ofString "mixed") 460),(.str (.ofString "/claim/cut.py") 461),(.int (94) 0),(.int (2) 0),(.int (0) 0),(.int (0) 0),(.int (3) 0),(.ref 215),(.bool true),(.int (181) 0),(.ref 216),.none,(.ref 217),(.ref 218),(.ref 219),(.int (465) 0),(.int (94) 0),(.str (.ofString "/claim/cut.py") 466)],#[]⟩) ::
  (nat_lit 221,kF (top 36) (.ofString "mixed") (.ofString "mixed") .none .none .none (.str (.ofString "kinnames.together") 457) none (.ref 220) .none (.type "function") none #[]) ::
  (nat_lit 225,⟨(.type "code"),none,.fields #[(.str (.ofString "shared_ends") 468),(.str (.ofString "shared_ends") 469),(.str (.ofString "/claim/cut.py") 470),(.int (100) 0),(.int (3) 0),(.int (0) 0),(.int (0) 0),(.int (3) 0),(.ref 222),(.bool true),(.int (181) 0),(.ref 223),.none,.none,.none,(.ref 224),(.int (471) 0),(.int (100) 0),(.str (.ofString "/claim/cut.py") 472)],#[]⟩) ::
  (nat_lit 226,kF (top 37) (.ofString "shared_ends") (.ofString "shared_ends") .none .none .none (.str (.ofString "kinnames.together") 457) none (.ref 225) .none (.type "function") none #[]) ::
  (nat_lit 232,⟨(.type "code"),none,.fields #[(.str (.ofString "next_firsts") 474),(.str (.ofString "next_firsts") 475),(.str (.ofString "/claim/cut.py") 476),(.int (106) 0),(.int (4) 0),(.int (0) 0),(.int (0) 0),(.int (3) 0),(.ref 227),(.bool true),(.int (181) 0),(.ref 228),.none,(.ref 229),(.ref 230),(.ref 231),(.int (487) 0),(.int (106) 0),(.str (.ofString "/claim/cut.py") 488)],#[]⟩) ::
  (nat_lit 233,kF (top 38) (.ofString "next_firsts") (.ofString "next_firsts") .none .none .none (.str (.ofString "kinnames.together") 457) none (.ref 232) .none (.type "function") none #[]) ::
  (nat_lit 239,⟨(.type "code"),none,.fields #[(.str (.ofString "ends_by_rows_alone") 490),(.str (.ofString "ends_by_rows_alone") 491),(.str (.ofString "/claim/cut.py") 492),(.int (115) 0),(.int (3) 0),(.int (0) 0),(.int (0) 0),(.int (3) 0),(.ref 234),(.bool true),(.int (181) 0),(.ref 235),.none,(.ref 236),(.ref 237),(.ref 238),(.int (496) 0),(.int (115) 0),(.str (.ofString "/claim/cut.py") 497)],#[]⟩) ::
  (nat_lit 240,kF (top 39) (.ofString "ends_by_rows_alone") (.ofString "ends_by_rows_alone") .none .none .none (.str (.ofString "kinnames.together") 457) none (.ref 239) .none (.type "function") none #[]) ::
  (nat_lit 244,⟨(.type "code"),none,.fields #[(.str (.ofString "lacking") 499),(.str (.ofString "lacking") 500),(.str (.ofString "/claim/cut.py") 501),(.int (117) 0),(.int (3) 0),(.int (0) 0),(.int (0) 0),(.int (3) 0),(.ref 241),(.bool true),(.int (181) 0),(.ref 242),.none,.none,.none,(.ref 243),(.int (502) 0),(.int (117) 0),(.str (.ofString "/claim/cut.py") 503)],#[]⟩) ::
  (nat_lit 245,kF (top 40) (.ofString "lacking") (.ofString "lacking") .none .none .none (.str (.ofString "kinnames.together") 457) none (.ref 244) .none (.type "function") none #[]) ::
  (nat_lit 251,⟨(.type "code"),none,.fields #[(.str (.ofString "makes_all") 505),(.str (.ofString "makes_all") 506),(.str (.ofString "/claim/cut.py") 507),(.int (130) 0),(.int (3) 0),(.int (0) 0),(.int (0) 0),(.int (3) 0),(.ref 246),(.bool true),(.int (181) 0),(.ref 247),.none,(.ref 248),(.ref 249),(.ref 250),(.int (511) 0),(.int (130) 0),(.str (.ofString "/claim/cut.py") 512)],#[]⟩) ::
  (nat_lit 252,kF (top 41) (.ofString "makes_all") (.ofString "makes_all") .none .none .none (.str (.ofString "kinnames.together") 457) none (.ref 251) .none (.type "function") none #[]) ::
  (nat_lit 256,⟨(.type "code"),none,.fields #[(.str (.ofString "even_parts") 518),(.str (.ofString "even_parts") 519),(.str (.ofString "/claim/cut.py") 520),(.int (134) 0),(.int (1) 0),(.int (0) 0),(.int (0) 0),(.int (3) 0),(.ref 253),(.bool true),(.int (181) 0),(.ref 254),.none,.none,.none,(.ref 255),(.int (521) 0),(.int (134) 0),(.str (.ofString "/claim/cut.py") 522)],#[]⟩) ::
  (nat_lit 257,kF (top 44) (.ofString "even_parts") (.ofString "even_parts") .none .none .none (.str (.ofString "kinnames.ways") 514) none (.ref 256) .none (.type "function") none #[]) ::
  (nat_lit 263,⟨(.type "code"),none,.fields #[(.str (.ofString "left_of") 524),(.str (.ofString "left_of") 525),(.str (.ofString "/claim/cut.py") 526),(.int (139) 0),(.int (2) 0),(.int (0) 0),(.int (0) 0),(.int (3) 0),(.ref 258),(.bool true),(.int (181) 0),(.ref 259),.none,(.ref 260),(.ref 261),(.ref 262),(.int (529) 0),(.int (139) 0),(.str (.ofString "/claim/cut.py") 530)],#[]⟩) ::
  (nat_lit 264,kF (top 45) (.ofString "left_of") (.ofString "left_of") .none .none .none (.str (.ofString "kinnames.ways") 514) none (.ref 263) .none (.type "function") none #[]) ::
  (nat_lit 270,⟨(.type "code"),none,.fields #[(.str (.ofString "may_follow") 532),(.str (.ofString "may_follow") 533),(.str (.ofString "/claim/cut.py") 534),(.int (141) 0),(.int (2) 0),(.int (0) 0),(.int (0) 0),(.int (3) 0),(.ref 265),(.bool true),(.int (181) 0),(.ref 266),.none,(.ref 267),(.ref 268),(.ref 269),(.int (537) 0),(.int (141) 0),(.str (.ofString "/claim/cut.py") 538)],#[]⟩) ::
  (nat_lit 271,kF (top 46) (.ofString "may_follow") (.ofString "may_follow") .none .none .none (.str (.ofString "kinnames.ways") 514) none (.ref 270) .none (.type "function") none #[]) ::
  (nat_lit 277,⟨(.type "code"),none,.fields #[(.str (.ofString "next_sums") 540),(.str (.ofString "next_sums") 541),(.str (.ofString "/claim/cut.py") 542),(.int (143) 0),(.int (4) 0),(.int (0) 0),(.int (0) 0),(.int (3) 0),(.ref 272),(.bool true),(.int (181) 0),(.ref 273),.none,(.ref 274),(.ref 275),(.ref 276),(.int (553) 0),(.int (143) 0),(.str (.ofString "/claim/cut.py") 554)],#[]⟩) ::
  (nat_lit 278,kF (top 47) (.ofString "next_sums") (.ofString "next_sums") .none .none .none (.str (.ofString "kinnames.ways") 514) none (.ref 277) .none (.type "function") none #[]) ::
  (nat_lit 282,⟨(.type "code"),none,.fields #[(.str (.ofString "sum_along") 556),(.str (.ofString "sum_along") 557),(.str (.ofString "/claim/cut.py") 558),(.int (151) 0),(.int (4) 0),(.int (0) 0),(.int (0) 0),(.int (3) 0),(.ref 279),(.bool true),(.int (181) 0),(.ref 280),.none,.none,.none,(.ref 281),(.int (559) 0),(.int (151) 0),(.str (.ofString "/claim/cut.py") 560)],#[]⟩) ::
  (nat_lit 283,kF (top 48) (.ofString "sum_along") (.ofString "sum_along") .none .none .none (.str (.ofString "kinnames.ways") 514) none (.ref 282) .none (.type "function") none #[]) ::
  (nat_lit 289,⟨(.type "code"),none,.fields #[(.str (.ofString "need_length") 564),(.str (.ofString "need_length") 565),(.str (.ofString "/claim/cut.py") 566),(.int (157) 0),(.int (1) 0),(.int (0) 0),(.int (0) 0),(.int (3) 0),(.ref 284),(.bool true),(.int (181) 0),(.ref 285),.none,(.ref 286),(.ref 287),(.ref 288),(.int (568) 0),(.int (157) 0),(.str (.ofString "/claim/cut.py") 569)],#[]⟩) ::
  (nat_lit 290,kF (top 50) (.ofString "need_length") (.ofString "need_length") .none .none .none (.str (.ofString "kinnames.lengths") 562) none (.ref 289) .none (.type "function") none #[]) ::
  (nat_lit 296,⟨(.type "code"),none,.fields #[(.str (.ofString "how_many_by_rows") 571),(.str (.ofString "how_many_by_rows") 572),(.str (.ofString "/claim/cut.py") 573),(.int (159) 0),(.int (3) 0),(.int (0) 0),(.int (0) 0),(.int (3) 0),(.ref 291),(.bool true),(.int (181) 0),(.ref 292),.none,(.ref 293),(.ref 294),(.ref 295),(.int (577) 0),(.int (159) 0),(.str (.ofString "/claim/cut.py") 578)],#[]⟩) ::
  (nat_lit 297,kF (top 51) (.ofString "how_many_by_rows") (.ofString "how_many_by_rows") .none .none .none (.str (.ofString "kinnames.lengths") 562) none (.ref 296) .none (.type "function") none #[]) ::
  (nat_lit 303,⟨(.type "code"),none,.fields #[(.str (.ofString "how_many") 580),(.str (.ofString "how_many") 581),(.str (.ofString "/claim/cut.py") 582),(.int (161) 0),(.int (3) 0),(.int (0) 0),(.int (0) 0),(.int (3) 0),(.ref 298),(.bool true),(.int (181) 0),(.ref 299),.none,(.ref 300),(.ref 301),(.ref 302),(.int (586) 0),(.int (161) 0),(.str (.ofString "/claim/cut.py") 587)],#[]⟩) ::
  (nat_lit 304,kF (top 52) (.ofString "how_many") (.ofString "how_many") .none .none .none (.str (.ofString "kinnames.lengths") 562) none (.ref 303) .none (.type "function") none #[]) ::
  (nat_lit 308,⟨(.type "code"),none,.fields #[(.str (.ofString "letters_towards") 589),(.str (.ofString "letters_towards") 590),(.str (.ofString "/claim/cut.py") 591),(.int (166) 0),(.int (4) 0),(.int (0) 0),(.int (0) 0),(.int (3) 0),(.ref 305),(.bool true),(.int (181) 0),(.ref 306),.none,.none,.none,(.ref 307),(.int (592) 0),(.int (166) 0),(.str (.ofString "/claim/cut.py") 593)],#[]⟩) ::
  (nat_lit 309,kF (top 53) (.ofString "letters_towards") (.ofString "letters_towards") .none .none .none (.str (.ofString "kinnames.lengths") 562) none (.ref 308) .none (.type "function") none #[]) ::
  (nat_lit 313,⟨(.type "code"),none,.fields #[(.str (.ofString "closing_ends") 595),(.str (.ofString "closing_ends") 596),(.str (.ofString "/claim/cut.py") 597),(.int (168) 0),(.int (3) 0),(.int (0) 0),(.int (0) 0),(.int (3) 0),(.ref 310),(.bool true),(.int (181) 0),(.ref 311),.none,.none,.none,(.ref 312),(.int (598) 0),(.int (168) 0),(.str (.ofString "/claim/cut.py") 599)],#[]⟩) ::
  (nat_lit 314,kF (top 54) (.ofString "closing_ends") (.ofString "closing_ends") .none .none .none (.str (.ofString "kinnames.lengths") 562) none (.ref 313) .none (.type "function") none #[]) ::
  (nat_lit 318,⟨(.type "code"),none,.fields #[(.str (.ofString "lengthened") 601),(.str (.ofString "lengthened") 602),(.str (.ofString "/claim/cut.py") 603),(.int (174) 0),(.int (4) 0),(.int (0) 0),(.int (0) 0),(.int (3) 0),(.ref 315),(.bool true),(.int (181) 0),(.ref 316),.none,.none,.none,(.ref 317),(.int (604) 0),(.int (174) 0),(.str (.ofString "/claim/cut.py") 605)],#[]⟩) ::
  (nat_lit 319,kF (top 55) (.ofString "lengthened") (.ofString "lengthened") .none .none .none (.str (.ofString "kinnames.lengths") 562) none (.ref 318) .none (.type "function") none #[]) ::
  (nat_lit 325,⟨(.type "code"),none,.fields #[(.str (.ofString "all_made") 607),(.str (.ofString "all_made") 608),(.str (.ofString "/claim/cut.py") 609),(.int (182) 0),(.int (3) 0),(.int (0) 0),(.int (0) 0),(.int (3) 0),(.ref 320),(.bool true),(.int (181) 0),(.ref 321),.none,(.ref 322),(.ref 323),(.ref 324),(.int (617) 0),(.int (182) 0),(.str (.ofString "/claim/cut.py") 618)],#[]⟩) ::
  (nat_lit 326,kF (top 56) (.ofString "all_made") (.ofString "all_made") .none .none .none (.str (.ofString "kinnames.lengths") 562) none (.ref 325) .none (.type "function") none #[]) ::
  (nat_lit 332,⟨(.type "code"),none,.fields #[(.str (.ofString "_law_cell") 622),(.str (.ofString "_law_cell") 623),(.str (.ofString "/claim/cut.py") 624),(.int (193) 0),(.int (2) 0),(.int (0) 0),(.int (0) 0),(.int (3) 0),(.ref 327),(.bool true),(.int (181) 0),(.ref 328),.none,(.ref 329),(.ref 330),(.ref 331),(.int (627) 0),(.int (193) 0),(.str (.ofString "/claim/cut.py") 628)],#[]⟩) ::
  (nat_lit 333,kF (top 58) (.ofString "_law_cell") (.ofString "_law_cell") .none .none .none (.str (.ofString "law_kinnames_k82_whole_together") 620) none (.ref 332) .none (.type "function") none #[]) ::
  (nat_lit 339,⟨(.type "code"),none,.fields #[(.str (.ofString "_law_drawn") 630),(.str (.ofString "_law_drawn") 631),(.str (.ofString "/claim/cut.py") 632),(.int (197) 0),(.int (3) 0),(.int (0) 0),(.int (0) 0),(.int (3) 0),(.ref 334),(.bool true),(.int (181) 0),(.ref 335),.none,(.ref 336),(.ref 337),(.ref 338),(.int (637) 0),(.int (197) 0),(.str (.ofString "/claim/cut.py") 638)],#[]⟩) ::
  (nat_lit 340,kF (top 59) (.ofString "_law_drawn") (.ofString "_law_drawn") .none .none .none (.str (.ofString "law_kinnames_k82_whole_together") 620) none (.ref 339) .none (.type "function") none #[]) ::
  (nat_lit 344,⟨(.type "code"),none,.fields #[(.str (.ofString "_law_name") 640),(.str (.ofString "_law_name") 641),(.str (.ofString "/claim/cut.py") 642),(.int (201) 0),(.int (3) 0),(.int (0) 0),(.int (0) 0),(.int (3) 0),(.ref 341),(.bool true),(.int (181) 0),(.ref 342),.none,.none,.none,(.ref 343),(.int (643) 0),(.int (201) 0),(.str (.ofString "/claim/cut.py") 644)],#[]⟩) ::
  (nat_lit 345,kF (top 60) (.ofString "_law_name") (.ofString "_law_name") .none .none .none (.str (.ofString "law_kinnames_k82_whole_together") 620) none (.ref 344) .none (.type "function") none #[]) ::
  (nat_lit 351,⟨(.type "code"),none,.fields #[(.str (.ofString "_law_book") 646),(.str (.ofString "_law_book") 647),(.str (.ofString "/claim/cut.py") 648),(.int (205) 0),(.int (4) 0),(.int (0) 0),(.int (0) 0),(.int (3) 0),(.ref 346),(.bool true),(.int (181) 0),(.ref 347),.none,(.ref 348),(.ref 349),(.ref 350),(.int (655) 0),(.int (205) 0),(.str (.ofString "/claim/cut.py") 656)],#[]⟩) ::
  (nat_lit 352,kF (top 61) (.ofString "_law_book") (.ofString "_law_book") .none .none .none (.str (.ofString "law_kinnames_k82_whole_together") 620) none (.ref 351) .none (.type "function") none #[]) ::
  (nat_lit 356,⟨(.type "code"),none,.fields #[(.str (.ofString "law") 658),(.str (.ofString "law") 659),(.str (.ofString "/claim/cut.py") 660),(.int (210) 0),(.int (1) 0),(.int (0) 0),(.int (0) 0),(.int (3) 0),(.ref 353),(.bool true),(.int (181) 0),(.ref 354),.none,.none,.none,(.ref 355),(.int (661) 0),(.int (210) 0),(.str (.ofString "/claim/cut.py") 662)],#[]⟩) ::
  (nat_lit 357,kF (top 62) (.ofString "law") (.ofString "law") .none .none .none (.str (.ofString "law_kinnames_k82_whole_together") 620) none (.ref 356) .none (.type "function") none #[]) :: []
def kas:List Addr:=[2,3,23,24,25,36,37,48,49,60,61,72,73,79,80,84,85,91,92,98,99,105,106,112,113,119,120,126,127,133,134,138,139,145,146,150,151,152,153,159,160,166,167,173,174,180,181,187,188,192,193,199,200,206,207,213,214,220,221,225,226,232,233,239,240,244,245,251,252,256,257,263,264,270,271,277,278,282,283,289,290,296,297,303,304,308,309,313,314,318,319,325,326,332,333,339,340,344,345,351,352,356,357]
def kq:Program:=view PySem.Challenge.pw_kinnames_k82_whole_together [1,2,3,4,5,7,8,9,10,11,12,13,14,15,16,17,18,19,20,21,22,24,25,26,27,28,29,30,31,32,33,34,36,37,38,39,40,41,43,44,45,46,47,48,50,51,52,53,54,55,56,58,59,60,61,62]
def klo:List Str:=[]
theorem kas_e:∀ P,kas = (kfr P).map (·.1):=fun _=>by kernel_rfl
noncomputable def hl0 (w:World):=(openEndsT treeTable PySem.Challenge.pw_kinnames_k82_whole_together w 5076).map (fun s=>(seen ((recsOf kq).map (·.name)) (ownsOf kq) [] { s with gens:=#[] },s.heap.bltView,(s.heap.keysOk (looseW kq klo) ((recsOf kq).map (·.name)) ((litsOf kq).map (·.1)) ((clssOf kq (looseW kq klo)).map (·.name)) && s.heap.accountedOkI (importedModules PySem.Challenge.pw_kinnames_k82_whole_together.main.body) && s.heap.isNs mainGlobals && s.heap.isNs builtinsNs && tablesOk kq s.heap && (xlAt kq [] s && recOk [] s) && (if true = true then s.gens.size == 0 else !leftWithCleanup s.gens))))
noncomputable def hr0 (w:World):=some (expectedOf kq,bltViewBooted,true)
theorem hl0_e:hl0 = hl0:=rfl
theorem hr0_e:hr0 = hr0:=rfl
noncomputable def hl1 (w:World):=(openEndsT treeTable PySem.Challenge.pw_kinnames_k82_whole_together w 5076).map (fun s=>(tabsOk kq s,pinSeenD kq (drecsOf kq) s,plainSeenE kq (looseW kq klo) s,plainSeenD kq klo s,wideSeen kq s,clsSeenW kq klo s))
noncomputable def hr1 (w:World):=some (true,pinGoodD (drecsOf kq),plainGoodE kq (looseW kq klo),plainGoodD kq klo,wideGood kq,clsGoodW kq klo)
theorem hl1_e:hl1 = hl1:=rfl
theorem hr1_e:hr1 = hr1:=rfl
noncomputable def hl2 (w:World):=(openEndsT treeTable PySem.Challenge.pw_kinnames_k82_whole_together w 5076).map (fun s=>(kas.map s.heap.get?))
noncomputable def hr2 (w:World):=some ((kfr w.params).map fun p=>some p.2)
theorem hl2_e:hl2 = hl2:=rfl
theorem hr2_e:hr2 = hr2:=rfl
end Kn
name_quick hl0Q for Kn.hl0 by Kn.hl0_e
name_quick hr0Q for Kn.hr0 by Kn.hr0_e
theorem Kn.hq0 (w:World):PySem.W.Fast.hl0Q w = PySem.W.Fast.hr0Q w:=by kernel_rfl
theorem Kn.hx0 (w:World):Kn.hl0 w = Kn.hr0 w:=((congrFun PySem.W.Fast.hl0Q_eq w).trans (Kn.hq0 w)).trans (congrFun PySem.W.Fast.hr0Q_eq w).symm
name_quick hl1Q for Kn.hl1 by Kn.hl1_e
name_quick hr1Q for Kn.hr1 by Kn.hr1_e
theorem Kn.hq1 (w:World):PySem.W.Fast.hl1Q w = PySem.W.Fast.hr1Q w:=by kernel_rfl
theorem Kn.hx1 (w:World):Kn.hl1 w = Kn.hr1 w:=((congrFun PySem.W.Fast.hl1Q_eq w).trans (Kn.hq1 w)).trans (congrFun PySem.W.Fast.hr1Q_eq w).symm
name_quick hl2Q for Kn.hl2 by Kn.hl2_e
name_quick hr2Q for Kn.hr2 by Kn.hr2_e
theorem Kn.hq2 (w:World):PySem.W.Fast.hl2Q w = PySem.W.Fast.hr2Q w:=by kernel_rfl
theorem Kn.hx2 (w:World):Kn.hl2 w = Kn.hr2 w:=((congrFun PySem.W.Fast.hl2Q_eq w).trans (Kn.hq2 w)).trans (congrFun PySem.W.Fast.hr2Q_eq w).symm
theorem Kn.hl:LeftO PySem.Challenge.pw_kinnames_k82_whole_together Kn.kq Kn.klo (fun s=>xlAt Kn.kq [] s && recOk [] s) (Hook.obs (kHook Kn.kfr Kn.kas Kn.kas_e)) (Hook.val (kHook Kn.kfr Kn.kas Kn.kas_e)) 5076:=fun w=>by
  refine Kn.openMap_of ?_
  obtain ⟨s,e,x0⟩:=Option.map_eq_some_iff.mp (Kn.hx0 w)
  have y1:=Kn.hx1 w
  unfold Kn.hl1 at y1
  rw [e] at y1
  have x1:=Option.some.inj y1
  have y2:=Kn.hx2 w
  unfold Kn.hl2 at y2
  rw [e] at y2
  have x2:=Option.some.inj y2
  obtain ⟨a1,z0_0⟩:=Prod.mk.inj x0
  obtain ⟨a2,z0_1⟩:=Prod.mk.inj z0_0
  have a3:=z0_1
  obtain ⟨a4,z1_0⟩:=Prod.mk.inj x1
  obtain ⟨a5,z1_1⟩:=Prod.mk.inj z1_0
  obtain ⟨a6,z1_2⟩:=Prod.mk.inj z1_1
  obtain ⟨a7,z1_3⟩:=Prod.mk.inj z1_2
  obtain ⟨a8,z1_4⟩:=Prod.mk.inj z1_3
  have a9:=z1_4
  have aK:=x2
  rw [e]
  exact congrArg some (looks_pair (looks_pair a1 (looks_pair a2 (looks_pair a3 (looks_pair a4 (looks_pair a5 (looks_pair a6 (looks_pair a7 (looks_pair a8 a9)))))))) aK)
end
section
set_option Elab.async false
set_option linter.all false
set_option maxRecDepth 100000
namespace L2
open PySem PySem.Spec PyProof.Rows
abbrev Key:=Sum Int Str
def keyIs:Key→Value→Bool
  | .inl k,v=>Value.isInt k v
  | .inr x,v=>Value.isStrOf x v
def keyH (w:World):Key→Int
  | .inl k=>hashInt k
  | .inr x=>hashStr w x
theorem keyIs_shape:∀ {k:Key} {v:Value},keyIs k v = true→(∃ i t,k = Sum.inl i∧v = Value.int i t)∨(∃ x t,k = Sum.inr x∧v = Value.str x t)
  | .inl i,v,h=>by
    obtain ⟨t,e⟩:=Value.isInt_shape (k:=i) (v:=v) h
    exact .inl ⟨i,t,rfl,e⟩
  | .inr x,v,h=>by
    obtain ⟨t,e⟩:=Value.isStrOf_shape (x:=x) (v:=v) h
    exact .inr ⟨x,t,rfl,e⟩
theorem keyIs_int (i:Int) (t:Tok):keyIs (.inl i) (.int i t) = true:=by simp [keyIs,Value.isInt]
theorem keyIs_str (x:Str) (t:Tok):keyIs (.inr x) (.str x t) = true:=by simp [keyIs,Value.isStrOf]
theorem key_ll (a b:Int):decide ((Sum.inl a:Key) = Sum.inl b) = (a == b):=by
  by_cases e:a = b
  · subst e; simp
  · have h:¬ (Sum.inl a:Key) = Sum.inl b:=fun q=>e (Sum.inl.inj q)
    rw [decide_eq_false h]
    exact (beq_eq_false_iff_ne.mpr e).symm
theorem key_rr (a b:Str):decide ((Sum.inr a:Key) = Sum.inr b) = decide (a = b):=by
  by_cases e:a = b
  · subst e; simp
  · have h:¬ (Sum.inr a:Key) = Sum.inr b:=fun q=>e (Sum.inr.inj q)
    rw [decide_eq_false h,decide_eq_false e]
theorem key_lr (a:Int) (b:Str):decide ((Sum.inl a:Key) = Sum.inr b) = false:=decide_eq_false (fun q=>nomatch q)
theorem key_rl (a:Str) (b:Int):decide ((Sum.inr a:Key) = Sum.inl b) = false:=decide_eq_false (fun q=>nomatch q)
def mixKind (prog:Program) (w:World):PySem.KeyKind prog w Key where
  is:=keyIs
  hash:=keyH w
  inj:=fun v a b ha hb=>by
    rcases keyIs_shape ha with ⟨i,t,rfl,rfl⟩ | ⟨x,t,rfl,rfl⟩
    · rcases keyIs_shape hb with ⟨j,u,rfl,e⟩ | ⟨y,u,rfl,e⟩
      · injection e with e1 _; rw [e1]
      · exact nomatch e
    · rcases keyIs_shape hb with ⟨j,u,rfl,e⟩ | ⟨y,u,rfl,e⟩
      · exact nomatch e
      · injection e with e1 _; rw [e1]
  byValue:=fun k v h=>by
    rcases keyIs_shape h with ⟨i,t,rfl,rfl⟩ | ⟨x,t,rfl,rfl⟩ <;> rfl
  pyHash:=fun hv h=>by
    rcases keyIs_shape hv with ⟨i,t,rfl,rfl⟩ | ⟨x,t,rfl,rfl⟩
    · exact wpAny_pyHash_int h
    · exact wpAny_pyHash_str h
  eqBool:=fun hu hv h=>by
    rcases keyIs_shape hu with ⟨i,t,rfl,rfl⟩ | ⟨x,t,rfl,rfl⟩
    · rcases keyIs_shape hv with ⟨j,u,rfl,rfl⟩ | ⟨y,u,rfl,rfl⟩
      · rw [key_ll] at h; exact wpAny_eqBool_int h
      · rw [key_lr] at h; exact SeqAt.EqAt.int_str i t y u _ _ _ _ h
    · rcases keyIs_shape hv with ⟨j,u,rfl,rfl⟩ | ⟨y,u,rfl,rfl⟩
      · rw [key_rl] at h; exact SeqAt.EqAt.str_int x t j u _ _ _ _ h
      · rw [key_rr] at h; exact wpAny_eqBool_str h
  «strs»:=fun k x t v h=>by
    rcases keyIs_shape h with ⟨i,u,rfl,e⟩ | ⟨y,u,rfl,e⟩
    · exact nomatch e
    · injection e with e1 _
      subst e1
      cases v <;> rfl
abbrev TKey:=Sum Str Bool
def tkIs:TKey→Value→Bool
  | .inl x,v=>Value.isStrOf x v
  | .inr b,v=>v == Value.bool b
theorem tkIs_shape:∀ {k:TKey} {v:Value},tkIs k v = true→(∃ x t,k = Sum.inl x∧v = Value.str x t)∨(∃ b,k = Sum.inr b∧v = Value.bool b)
  | .inl x,v,h=>by
    obtain ⟨t,e⟩:=Value.isStrOf_shape (x:=x) (v:=v) h
    exact .inl ⟨x,t,rfl,e⟩
  | .inr b,v,h=>.inr ⟨b,rfl,eq_of_beq h⟩
def tkH (w:World):TKey→Int
  | .inl x=>hashStr w x
  | .inr b=>reduceHash (if b then 1 else 0)
theorem tk_hash {prog:Program} {w:World} {A:Around} {E:Value→Shared→Prop} {s:Shared} {b:Bool} {Q:Int→Shared→Prop} (h:Q (reduceHash (if b then 1 else 0)) { s with toks:=s.toks + 1 }) :
    wpAny (model prog w) A (pyHash (.bool b)) Q E s:=by
  refine PySem.W.pyHash_slot (T := "bool") rfl F.slot_bool_hash F.entry_int_hash (F.args_int_hash_1 _) (by decide) (.inl (by cases b <;> rfl)) ?_
  unfold Builtin.«int.__hash__»
  cases b
  · wp_walk
    exact ⟨_,_,rfl,h⟩
  · wp_walk
    exact ⟨_,_,rfl,h⟩
def tkKind (prog:Program) (w:World):PySem.KeyKind prog w TKey where
  is:=tkIs
  hash:=tkH w
  inj:=fun v a b ha hb=>by
    rcases tkIs_shape ha with ⟨x,t,rfl,rfl⟩ | ⟨c,rfl,rfl⟩
    · rcases tkIs_shape hb with ⟨y,u,rfl,e⟩ | ⟨d,rfl,e⟩
      · injection e with e1 _; rw [e1]
      · exact nomatch e
    · rcases tkIs_shape hb with ⟨y,u,rfl,e⟩ | ⟨d,rfl,e⟩
      · exact nomatch e
      · injection e with e1; rw [e1]
  byValue:=fun k v h=>by
    rcases tkIs_shape h with ⟨x,t,rfl,rfl⟩ | ⟨c,rfl,rfl⟩ <;> rfl
  pyHash:=fun hv h=>by
    rcases tkIs_shape hv with ⟨x,t,rfl,rfl⟩ | ⟨c,rfl,rfl⟩
    · exact wpAny_pyHash_str h
    · exact tk_hash h
  eqBool:=fun hu hv h=>by
    rcases tkIs_shape hu with ⟨x,t,rfl,rfl⟩ | ⟨c,rfl,rfl⟩
    · rcases tkIs_shape hv with ⟨y,u,rfl,rfl⟩ | ⟨d,rfl,rfl⟩
      · have e:decide ((Sum.inl x:TKey) = Sum.inl y) = decide (x = y):=by
          by_cases q:x = y
          · subst q; simp
          · rw [decide_eq_false q,decide_eq_false fun z=>q (Sum.inl.inj z)]
        rw [e] at h; exact wpAny_eqBool_str h
      · rw [decide_eq_false (fun q=>nomatch q)] at h; exact SeqAt.EqAt.str_bool x t d _ _ _ _ h
    · rcases tkIs_shape hv with ⟨y,u,rfl,rfl⟩ | ⟨d,rfl,rfl⟩
      · rw [decide_eq_false (fun q=>nomatch q)] at h; exact SeqAt.EqAt.bool_str c y u _ _ _ _ h
      · refine SeqAt.EqAt.bool_bool c d _ _ _ _ ?_
        have e:decide ((Sum.inr c:TKey) = Sum.inr d) = (c == d):=by cases c <;> cases d <;> rfl
        rw [← e]; exact h
  «strs»:=fun k x t v h=>by
    rcases tkIs_shape h with ⟨y,u,rfl,e⟩ | ⟨d,rfl,e⟩
    · injection e with e1 _
      subst e1
      cases v <;> rfl
    · exact nomatch e
theorem mixKind_is (prog:Program) (w:World) (k:Key) (v:Value):(mixKind prog w).is k v = keyIs k v:=rfl
theorem mixKind_int (prog:Program) (w:World) (i:Int) (t:Tok):(mixKind prog w).is (.inl i) (.int i t) = true:=keyIs_int i t
theorem mixKind_str (prog:Program) (w:World) (x:Str) (t:Tok):(mixKind prog w).is (.inr x) (.str x t) = true:=keyIs_str x t
end L2
namespace L2
open PySem PySem.Spec PyProof.Rows
inductive V where
  | non | bl (b:Bool) | int (i:Int) | str (x:Str) | byt (b:Array UInt8) | flt (b:UInt64) | ref (a:Addr) | ty (n:String)
  deriving DecidableEq
def RelV:V→Value→Prop
  | .non,u=>u = Value.none
  | .bl b,u=>u = Value.bool b
  | .int i,u=>∃ t,u = Value.int i t
  | .str x,u=>∃ t,u = Value.str x t
  | .byt b,u=>∃ t,u = Value.bytes b t
  | .flt b,u=>∃ t,u = Value.float b t
  | .ref a,u=>u = Value.ref a
  | .ty n,u=>u = Value.type n
abbrev Vals:List V→List Value→Prop:=Paired RelV
theorem Vals.length {xs:List V} {us:List Value} (r:Vals xs us):xs.length = us.length:=Paired.length r
theorem Vals.get:∀ {xs:List V} {us:List Value} {i:Nat} {x:V},Vals xs us→xs[i]? = some x→∃ u,us[i]? = some u∧RelV x u
  | _,_,_,_,.nil,e=>by simp at e
  | _,_,0,_,.cons r _,e=>by simp at e; subst e; exact ⟨_,rfl,r⟩
  | _,_,i + 1,x,.cons _ t,e=>by
    obtain ⟨u,h1,h2⟩:=Vals.get (i:=i) (x:=x) t (by simpa using e)
    exact ⟨u,by simpa using h1,h2⟩
theorem Vals.set {x:V} {u:Value} (r:RelV x u):∀ {xs:List V} {us:List Value} (i:Nat),Vals xs us→Vals (xs.set i x) (us.set i u)
  | _,_,_,.nil=>.nil
  | _,_,0,.cons _ t=>.cons r t
  | _,_,i + 1,.cons q t=>.cons q (Vals.set r i t)
theorem Vals.append:∀ {xs ys:List V} {us ws:List Value},Vals xs us→Vals ys ws→Vals (xs ++ ys) (us ++ ws)
  | _,_,_,_,.nil,s=>s
  | _,_,_,_,.cons r t,s=>.cons r (Vals.append t s)
theorem Vals.take:∀ {xs:List V} {us:List Value} (n:Nat),Vals xs us→Vals (xs.take n) (us.take n)
  | _,_,0,_=>.nil
  | _,_,_ + 1,.nil=>.nil
  | _,_,n + 1,.cons r t=>.cons r (Vals.take n t)
theorem Vals.drop:∀ {xs:List V} {us:List Value} (n:Nat),Vals xs us→Vals (xs.drop n) (us.drop n)
  | _,_,0,r=>r
  | _,_,_ + 1,.nil=>.nil
  | _,_,n + 1,.cons _ t=>Vals.drop n t
def RelO:Option V→Option Value→Prop
  | some v,some u=>RelV v u
  | none,none=>True
  | _,_=>False
def KV {κ:Type}:List (κ × V)→List (κ × Value)→Prop:=Paired fun (p:κ × V) (q:κ × Value)=>p.1 = q.1∧RelV p.2 q.2
def kV:Key→V
  | .inl i=>.int i
  | .inr x=>.str x
def tkV:TKey→V
  | .inl x=>.str x
  | .inr b=>.bl b
inductive HO where
  | lst (xs:List V)
  | tup (xs:List V)
  | dK (kvs:List (Key × V)) | dT (kvs:List (List TKey × V))
  | set (S:Int→Bool) (n:Nat)
  | ins (C dx:Addr) (fs:List (Str × V))
  | own (x:Addr)
  | xd (fs:List (Str × V))
  | met (f x:Addr)
  | rng (lo hi:Int)
  | frz (o:Obj) (u:HO)
  | tbl (ps:Array Value)
  | ext (φ:Heap→Prop)
abbrev Hp:=Addr→Option HO
def upd (H:Hp) (a:Addr) (o:HO):Hp:=fun b=>if b = a then some o else H b
theorem upd_same {H:Hp} {a:Addr} {o:HO}:upd H a o a = some o:=by unfold upd; rw [if_pos rfl]
theorem upd_ne {H:Hp} {a b:Addr} {o:HO} (h:b≠a):upd H a o b = H b:=by unfold upd; rw [if_neg h]
theorem ne_of {H:Hp} {a b:Addr} {o u:HO} (h:H a = some o) (h':H b = some u) (d:o≠u):a≠b:=by
  intro e; subst e; rw [h] at h'; exact d (Option.some.inj h')
theorem ne_of_none {H:Hp} {a b:Addr} {o:HO} (h:H a = some o) (h':H b = none):a≠b:=by
  intro e; subst e; rw [h] at h'; cases h'
section
variable (P:Program) (w:World)
def ObjOk (H:Hp) (h:Heap) (a:Addr):HO→Prop
  | .lst xs=>xs.length≤sizeLine∧∃ (its:List Value) (n:Nat),Vals xs its∧h.get? a = some { cls:=.type "list",data:=.seq its.toArray n }
  | .tup xs=>xs.length≤sizeLine∧∃ its:List Value,Vals xs its∧IsTup h a its.toArray
  | .dK kvs=>kvs.length≤sizeLine∧(a == sysModules) = false∧∃ vs,KV kvs vs∧h.DictOf (mixKind P w) a vs
  | .dT kvs=>kvs.length≤sizeLine∧(a == sysModules) = false∧∃ xs:List (List TKey × Addr × Value),
      Paired (fun (p:List TKey × V) (q:List TKey × Addr × Value)=>p.1 = q.1∧H q.2.1 = some (.tup (p.1.map tkV))∧RelV p.2 q.2.2) kvs xs ∧
      ∃ o es ep,h.get? a = some o∧o.ExactDict∧o.data = .dict es ep∧es.toList = xs.map (entryOfKey (tupleKind (tkKind P w)))∧(xs.map (·.1)).Nodup
  | .set S n=>h.SetOf (intKind P w) a S n
  | .ins C dx fs=>H dx = some (.own a)∧fs.length≤1000∧dx≠a∧h.get? a = some (PySem.W.instObj C dx) ∧
      ∃ mA,h.Ns1 dx mA∧(∀ f,RelO (fs.lookup f) (mA f))∧PySem.Within mA (fs.map (·.1))
  | .own _=>∃ o,h.get? a = some o
  | .xd fs=>∃ mA,h.Ns1 a mA∧∀ f,RelO (fs.lookup f) (mA f)
  | .rng lo hi=>∃ t u v,h.get? a = some { cls:=.type "range",data:=.fields #[.int lo t,.int hi u,.int 1 v] }
  | .frz o u=>h.get? a = some o∧ObjOk H h a u
  | .tbl ps=>h.get? a = some { cls:=.none,data:=.fields ps }
  | .met f x=>h.get? a = some (PySem.W.methodObj (.ref f) (.ref x))
  | .ext φ=>φ h∧(∃ o,h.get? a = some o)∧∀ h1 h2:Heap,φ h1→(∀ o,h1.get? a = some o→h2.get? a = some o)→φ h2
def HOk (H:Hp) (h:Heap):Prop:=∀ a o,H a = some o→ObjOk P w H h a o
end
section
variable {P:Program} {w:World} {H H':Hp} {h h':Heap} {a:Addr} {o:HO}
theorem ObjOk.lt (x:ObjOk P w H h a o):a < h.objs.size:=by
  cases o with
  | lst xs=>obtain ⟨_,_,_,_,e⟩:=x; exact Heap.lt_size e
  | tup xs=>obtain ⟨_,_,_,p⟩:=x; exact p.lt
  | dK kvs=>obtain ⟨_,_,_,_,o,_,_,e,_⟩:=x; exact Heap.lt_size e
  | dT kvs=>obtain ⟨_,_,_,_,o,_,_,e,_⟩:=x; exact Heap.lt_size e
  | set S n=>obtain ⟨o,_,_,_,e,_⟩:=x; exact Heap.lt_size e
  | ins C dx fs=>obtain ⟨_,_,_,e,_⟩:=x; exact Heap.lt_size e
  | own y=>obtain ⟨_,e⟩:=x; exact Heap.lt_size e
  | xd fs=>obtain ⟨_,⟨_,_,_,e,_⟩,_⟩:=x; exact Heap.lt_size e
  | rng lo hi=>obtain ⟨_,_,_,e⟩:=x; exact Heap.lt_size e
  | frz ob u=>obtain ⟨e,_⟩:=x; exact Heap.lt_size e
  | tbl ps=>exact Heap.lt_size (show h.get? a = some _ from x)
  | met f y=>exact Heap.lt_size (show h.get? a = some _ from x)
  | ext φ=>obtain ⟨_,⟨_,e⟩,_⟩:=x; exact Heap.lt_size e
theorem Paired.mapP {α β:Type} {F G:α→β→Prop}:∀ {l₁:List α} {l₂:List β},Paired F l₁ l₂→(∀ a b,F a b→G a b)→Paired G l₁ l₂
  | _,_,.nil,_=>.nil
  | _,_,.cons r t,f=>.cons (f _ _ r) (Paired.mapP t f)
theorem ObjOk.stay (x:ObjOk P w H h a o) (k:∀ b u,(b = a∨H b = some (.own a))→h.get? b = some u→h'.get? b = some u)
    (ho:∀ b,H b = some (.own a)→H' b = some (.own a)) (ht:∀ b xs,H b = some (.tup xs)→H' b = some (.tup xs)):ObjOk P w H' h' a o:=by
  induction o with
  | lst xs=>obtain ⟨z,its,n,r,e⟩:=x; exact ⟨z,its,n,r,k _ _ (.inl rfl) e⟩
  | tup xs=>obtain ⟨z,its,r,ob,e,c⟩:=x; exact ⟨z,its,r,ob,k _ _ (.inl rfl) e,c⟩
  | dK kvs=>obtain ⟨z,y,vs,r,ob,es,ep,e,c⟩:=x; exact ⟨z,y,vs,r,ob,es,ep,k _ _ (.inl rfl) e,c⟩
  | dT kvs =>
    obtain ⟨z,y,xs,r,ob,es,ep,e,c⟩:=x
    exact ⟨z,y,xs,Paired.mapP r fun p q z=>⟨z.1,ht _ _ z.2.1,z.2.2⟩,ob,es,ep,k _ _ (.inl rfl) e,c⟩
  | set S n=>obtain ⟨ob,es,ep,t,e,c⟩:=x; exact ⟨ob,es,ep,t,k _ _ (.inl rfl) e,c⟩
  | ins C dx fs =>
    obtain ⟨d,z,ne,e,mA,⟨od,es,ep,e2,c⟩,r⟩:=x
    exact ⟨ho _ d,z,ne,k _ _ (.inl rfl) e,mA,⟨od,es,ep,k _ _ (.inr d) e2,c⟩,r⟩
  | own y=>obtain ⟨ob,e⟩:=x; exact ⟨ob,k _ _ (.inl rfl) e⟩
  | xd fs=>obtain ⟨mA,⟨od,es,ep,e,c⟩,r⟩:=x; exact ⟨mA,⟨od,es,ep,k _ _ (.inl rfl) e,c⟩,r⟩
  | rng lo hi=>obtain ⟨t,u,v,e⟩:=x; exact ⟨t,u,v,k _ _ (.inl rfl) e⟩
  | frz ob u ih=>obtain ⟨e,q⟩:=x; exact ⟨k _ _ (.inl rfl) e,ih q⟩
  | tbl ps =>
    have e:h.get? a = some { cls:=.none,data:=.fields ps }:=x
    show h'.get? a = some { cls:=.none,data:=.fields ps }
    exact k a _ (.inl rfl) e
  | met f y =>
    have e:h.get? a = some (PySem.W.methodObj (.ref f) (.ref y)):=x
    show h'.get? a = some (PySem.W.methodObj (.ref f) (.ref y))
    exact k a _ (.inl rfl) e
  | ext φ=>obtain ⟨p,⟨o,e⟩,st⟩:=x; exact ⟨st _ _ p fun o q=>k _ _ (.inl rfl) q,⟨o,k _ _ (.inl rfl) e⟩,st⟩
theorem HOk.lt (x:HOk P w H h) (e:H a = some o):a < h.objs.size:=(x a o e).lt
theorem HOk.fresh (x:HOk P w H h) (e:h.objs.size≤a):H a = none:=by
  cases q:H a with
  | none=>rfl
  | some u=>exact absurd (Nat.lt_of_lt_of_le (x.lt q) e) (Nat.lt_irrefl _)
theorem HOk.kept (x:HOk P w H h) (k:∀ b u,h.get? b = some u→h'.get? b = some u):HOk P w H h':=fun a o e =>
  (x a o e).stay (fun b u _ q=>k b u q) (fun _ q=>q) fun _ _ q=>q
theorem HOk.laid (x:HOk P w H h) (k:∀ b u,h.get? b = some u→h'.get? b = some u) (hp:h.objs.size≤a) (new:ObjOk P w (upd H a o) h' a o):HOk P w (upd H a o) h':=fun b u e=>by
  have hn:=x.fresh hp
  by_cases hb:b = a
  · subst hb; rw [upd_same] at e; cases e; exact new
  · rw [upd_ne hb] at e
    exact (x b u e).stay (fun c v _ q=>k c v q) (fun c q=>by rw [upd_ne (ne_of_none q hn)]; exact q) fun c xs q=>by rw [upd_ne (ne_of_none q hn)]; exact q
end
def Rd (H:Hp) (a:Addr) (u:HO):Prop:=H a = some u∨∃ o,H a = some (.frz o u)
theorem Rd.ok {P:Program} {w:World} {H:Hp} {h:Heap} {a:Addr} {u:HO} (r:Rd H a u) (x:HOk P w H h):ObjOk P w H h a u:=by
  rcases r with r | ⟨o,r⟩
  · exact x a u r
  · obtain ⟨_,q⟩:=x a _ r
    exact q
def Mut:Option HO→Prop
  | some (.lst _)=>True
  | some (.dK _)=>True
  | some (.dT _)=>True
  | some (.set _ _)=>True
  | some (.ins _ _ _)=>True
  | some (.ext _)=>True
  | _=>False
section
variable {P:Program} {w:World} {H:Hp} {h h':Heap} {x e:Addr} {o':HO}
theorem HOk.write (ok:HOk P w H h) (mu:Mut (H x)) (he:e = x∨H e = some (.own x)) (k:∀ b u,b≠e→h.get? b = some u→h'.get? b = some u) (heo:∃ u,h'.get? e = some u)
    (new:ObjOk P w (upd H x o') h' x o'):HOk P w (upd H x o') h':=fun b u q=>by
  have nown:∀ c y,H c = some (.own y)→c≠x:=fun c y r z=>by subst z; rw [r] at mu; exact mu
  have ntup:∀ c xs,H c = some (.tup xs)→c≠x:=fun c xs r z=>by subst z; rw [r] at mu; exact mu
  by_cases hb:b = x
  · subst hb; rw [upd_same] at q; cases q; exact new
  · rw [upd_ne hb] at q
    by_cases hbe:b = e
    · have q':H b = some (.own x):=by
        rcases he with z | z
        · exact absurd (hbe.trans z) hb
        · rw [hbe]; exact z
      rw [q] at q'; cases q'
      obtain ⟨v,hv⟩:=heo
      exact ⟨v,by rw [hbe]; exact hv⟩
    · refine (ok b u q).stay (fun c v hc r=>k c v ?_ r) (fun c r=>by rw [upd_ne (nown c b r)]; exact r) fun c xs r=>by rw [upd_ne (ntup c xs r)]; exact r
      rcases hc with rfl | hc
      · exact hbe
      · rintro rfl
        rcases he with z | z
        · exact nown c b hc z
        · rw [hc] at z; cases z; exact hb rfl
end
structure Un (fs ex:List Addr) (H H':Hp) (h h':Heap):Prop where
  keep:∀ b o,h.get? b = some o→H b = none→b ∉ fs→b ∉ ex→h'.get? b = some o
  slot:∀ b o,h.get? b = some o→H b = none→b∈fs→b ∉ ex→∃ sl,h'.get? b = some { o with slots:=sl }
  free:∀ b o,h.get? b = some o→H b = none→b ∉ ex→H' b = none
  there:∀ b o,h.get? b = some o→b ∉ ex→∃ o',h'.get? b = some o'
  tups:∀ b xs,H b = some (.tup xs)→H' b = some (.tup xs)
  frzs:∀ b o u,H b = some (.frz o u)→H' b = some (.frz o u)
  tbls:∀ b ps,H b = some (.tbl ps)→∃ more,H' b = some (.tbl (ps ++ more))
section
variable {fs fs' ex ex':List Addr} {H H1 H2:Hp} {h h1 h2 h':Heap} {a x e:Addr} {o:HO}
theorem Un.any (u:Un fs ex H H1 h h1) {b:Addr} {ob:Obj} (q:h.get? b = some ob) (n:H b = none) (hx:b ∉ ex):∃ sl,h1.get? b = some { ob with slots:=sl }:=by
  by_cases hb:b∈fs
  · exact u.slot b ob q n hb hx
  · exact ⟨ob.slots,u.keep b ob q n hb hx⟩
theorem Un.kept (k:∀ b u,h.get? b = some u→h'.get? b = some u):Un fs ex H H h h' :=
  ⟨fun b ob q _ _ _=>k b ob q,fun b ob q _ _ _=>⟨ob.slots,k b ob q⟩,fun _ _ _ n _=>n,fun b ob q _=>⟨ob,k b ob q⟩,fun _ _ q=>q,fun _ _ _ q=>q,fun _ ps q=>⟨#[],by rw [q]; simp⟩⟩
theorem Un.refl:Un fs ex H H h h:=Un.kept fun _ _ q=>q
theorem Un.laid (k:∀ b u,h.get? b = some u→h'.get? b = some u) (hp:h.objs.size≤a) (hn:H a = none):Un fs ex H (upd H a o) h h' where
  keep:=fun b u q _ _ _=>k b u q
  slot:=fun b u q _ _ _=>⟨u.slots,k b u q⟩
  free:=fun b u q n _=>by rw [upd_ne (Nat.ne_of_lt (Nat.lt_of_lt_of_le (Heap.lt_size q) hp))]; exact n
  there:=fun b u q _=>⟨u,k b u q⟩
  tups:=fun b xs q=>by rw [upd_ne (ne_of_none q hn)]; exact q
  frzs:=fun b u xs q=>by rw [upd_ne (ne_of_none q hn)]; exact q
  tbls:=fun b ps q=>⟨#[],by rw [upd_ne (ne_of_none q hn),q]; simp⟩
theorem Un.write (mu:Mut (H x)) (he:e = x∨H e = some (.own x)) (k:∀ b u,b≠e→h.get? b = some u→h'.get? b = some u) (heo:∃ u,h'.get? e = some u):Un fs ex H (upd H x o) h h':=by
  have hx:∀ b,H b = none→b≠x:=fun b n z=>by subst z; rw [n] at mu; exact mu
  have hb:∀ b,H b = none→b≠e:=fun b n z=>by
    subst z
    rcases he with r | r
    · exact hx b n r
    · rw [n] at r; cases r
  have hm:∀ b u,H b = some u→¬ Mut (some u)→b≠x:=fun b u q nm z=>by subst z; rw [q] at mu; exact nm mu
  refine ⟨fun b u q n _ _=>k b u (hb b n) q,fun b u q n _ _=>⟨u.slots,k b u (hb b n) q⟩,fun b u q n _=>by rw [upd_ne (hx b n)]; exact n,fun b u q _=>?_,
    fun b xs q=>by rw [upd_ne (hm b _ q fun z=>z)]; exact q,fun b u xs q=>by rw [upd_ne (hm b _ q fun z=>z)]; exact q,fun b ps q=>⟨#[],by rw [upd_ne (hm b _ q fun z=>z),q]; simp⟩⟩
  by_cases hbe:b = e
  · subst hbe; exact heo
  · exact ⟨u,k b u hbe q⟩
end
def trk (h:Heap) (H:Hp):List Addr:=(List.range h.objs.size).filter fun a=>(H a).isSome
def hidT (h:Heap) (H:Hp):Heap:=PySem.W.hideAll h (trk h H)
theorem hidT_size (h:Heap) (H:Hp):(hidT h H).objs.size = h.objs.size:=PySem.W.hideAll_size _ _
theorem hidT_get {h:Heap} {H:Hp} {b:Addr} {o:Obj} (e:h.get? b = some o) (n:H b = none):(hidT h H).get? b = some o :=
  PySem.W.hideAll_get _ e fun hm=>by
    have q:(H b).isSome = true:=(List.mem_filter.mp hm).2
    rw [n] at q; simp at q
theorem of_hidT {h:Heap} {H:Hp} {b:Addr} {o:Obj} (e:(hidT h H).get? b = some o):h.get? b = some o∧H b = none:=by
  have e':h.get? b = some o:=PySem.W.of_hideAll (trk h H) e
  refine ⟨e',?_⟩
  cases q:H b with
  | none=>rfl
  | some x =>
    have hm:b∈trk h H:=List.mem_filter.mpr ⟨List.mem_range.mpr (Heap.lt_size e'),by simp [q]⟩
    have z:(hidT h H).get? b = none:=PySem.W.hideAll_none (trk h H) hm
    rw [z] at e; cases e
def allNews (g h:Heap) (L:Addr):List (Addr × Obj):=(List.range h.objs.size).filterMap fun a=>if a = L∨(g.get? a).isSome = true then none else (h.get? a).map fun o=>(a,o)
def rest (g h:Heap) (L d:Addr):List (Addr × Obj):=(allNews g h L).filter fun p=>decide (p.1≠d)
end L2
namespace L2
open PySem PySem.Spec PyProof.Rows
structure Mod (K:PySem.W.Frag) (mg:Str→Option Value) (base:Heap):Prop where
  kin:K.In base
  glob:base.Ns mainGlobals mg
  blt:∃ mb,base.Ns builtinsNs mb∧∀ x:Str,x ≠ "__name__" → mb x = bootBuiltins x
  nolimit:base.NoLimit
structure Cx where
  prog:Program
  w:World
  K:PySem.W.Frag
  mg:Str→Option Value
  base:Heap
  A:Around
  N:List Str
  s₀:Shared
  H₀:Hp
  env:Env
  outer:List Env
  stack:List Env
  ex:List Addr
  fn:Str→Bool
  calm:Bool
  pn:List (Addr × Obj)
  xe:Value→Shared→Prop
def frs (l:List Env):List Addr:=l.filterMap (·.frame)
abbrev Cx.fs (X:Cx):List Addr:=frs X.outer
def Vis (sc:Scope) (x:Str):Prop:=sc.names.lookup x = some .local∨sc.names.lookup x = some .cell∨sc.names.lookup x = some .free
def Loc (sc:Scope) (x:Str):Prop:=sc.names.lookup x = some .local∨sc.names.lookup x = some .cell
def Look (env:Env) (h:Heap) (m:Str→Option Value) (x:Str) (u:Value):Prop :=
  (env.kindOf x = some .local∧m x = some u)∨((env.kindOf x = some .cell∨env.kindOf x = some .free)∧∃ c,env.cells.lookup x = some c∧h.IsCell c (some u))
structure Cx.Ok (X:Cx):Prop where
  mod:Mod X.K X.mg X.base
  kind:X.env.scope.kind = .function
  glob:X.env.globals = mainGlobals
  blt:X.env.builtins = builtinsNs
  above:X.s₀.heap.objs.size≤X.env.locals
  inj:∀ x y c,X.env.cells.lookup x = some c→X.env.cells.lookup y = some c→x = y
  has:∀ x,(X.env.kindOf x = some .cell∨X.env.kindOf x = some .free)→∃ c,X.env.cells.lookup x = some c
  cab:∀ x c,X.fn x = true→X.env.cells.lookup x = some c→X.s₀.heap.objs.size≤c
  hd:X.calm = true→X.A.handled = none
  frames:X.A.frames = some X.stack
  stk:X.stack = X.outer∨(X.stack = X.env :: X.outer∧X.env.frame = some X.env.locals)
  exf:∀ b∈X.ex,b≠X.env.locals∧∀ x c,X.env.cells.lookup x = some c→c≠b
  bs:∀ b o,X.base.get? b = some o→X.s₀.heap.get? b = some o∧X.H₀ b = none
  bsz:X.base.objs.size≤X.s₀.heap.objs.size
  noex:∀ b o,X.base.get? b = some o→b ∉ X.ex
  exfs:∀ b∈X.ex,b ∉ X.fs
  funs:X.s₀.heap.FunFrames X.base X.outer
  frf:∀ b∈X.fs,X.H₀ b = none
structure Inv (X:Cx) (pins:List (Addr × Obj)) (σ:List (Option V)) (H:Hp) (s:Shared):Prop where
  ok:X.Ok
  os:s.os = X.s₀.os
  bare:AllBare s.gens
  base:Un X.fs X.ex X.H₀ H X.s₀.heap s.heap
  loc:∃ m,s.heap.Ns X.env.locals m∧∀ (i:Nat) (x:Str) (v:V),X.N[i]? = some x→σ[i]? = some (some v)→Vis X.env.scope x→∃ u,RelV v u∧Look X.env s.heap m x u
  cell:∀ x c,X.env.cells.lookup x = some c→∃ v,s.heap.IsCell c v
  free:H X.env.locals = none
  freeC:∀ x c,X.env.cells.lookup x = some c→H c = none
  pin:∀ p∈X.pn ++ pins,s.heap.get? p.1 = some p.2∧H p.1 = none∧p.1≠X.env.locals∧p.1 ∉ X.fs∧∀ v,p.2.data≠.cell v
  hok:HOk X.prog X.w H s.heap
  len:σ.length = X.N.length
section
variable {X:Cx} {pins:List (Addr × Obj)} {σ:List (Option V)} {H H':Hp} {s:Shared} {h':Heap}
theorem Cx.Ok.nofr (ok:X.Ok) {b:Addr} {o:Obj} (e:X.base.get? b = some o):b ∉ X.fs:=fun hb=>by
  have:=(ok.funs.mem hb).1
  rw [e] at this; cases this
theorem Inv.bs (I:Inv X pins σ H s):∀ b o,X.base.get? b = some o→s.heap.get? b = some o∧H b = none:=fun b o e =>
  ⟨I.base.keep b o (I.ok.bs b o e).1 (I.ok.bs b o e).2 (I.ok.nofr e) (I.ok.noex b o e),I.base.free b o (I.ok.bs b o e).1 (I.ok.bs b o e).2 (I.ok.noex b o e)⟩
theorem Inv.bk (I:Inv X pins σ H s):∀ b o,X.base.get? b = some o→s.heap.get? b = some o:=fun b o e=>(I.bs b o e).1
theorem Inv.mod (I:Inv X pins σ H s):Mod X.K X.mg X.base:=I.ok.mod
theorem Inv.kIn (I:Inv X pins σ H s):X.K.In s.heap:=I.ok.mod.kin.keeps I.bk
theorem Inv.nolimit (I:Inv X pins σ H s):s.heap.NoLimit:=I.ok.mod.nolimit.keeps I.bk
theorem Inv.lt (I:Inv X pins σ H s):X.env.locals < s.heap.objs.size:=let ⟨_,hn,_⟩:=I.loc; hn.lt
theorem Inv.sz (I:Inv X pins σ H s):X.s₀.heap.objs.size≤s.heap.objs.size:=Nat.le_trans I.ok.above (Nat.le_of_lt I.lt)
theorem Inv.nofs (I:Inv X pins σ H s) {a:Addr} (h:s.heap.objs.size≤a):a ∉ X.fs:=fun hb=>by
  obtain ⟨_,o,ho,_⟩:=I.ok.funs.mem hb
  exact absurd (Nat.lt_of_lt_of_le (Heap.lt_size ho) (Nat.le_trans I.sz h)) (Nat.lt_irrefl _)
theorem Inv.cne (I:Inv X pins σ H s):∀ x c,X.env.cells.lookup x = some c→c≠X.env.locals:=fun x c e z=>by
  obtain ⟨v,o,ho,hd⟩:=I.cell x c e
  obtain ⟨m,⟨o',es,ep,ho',hd',_⟩,_⟩:=I.loc
  rw [z,ho'] at ho; cases ho; rw [hd'] at hd; cases hd
theorem Inv.funs (I:Inv X pins σ H s):s.heap.FunFrames X.base X.outer:=by
  have all:∀ (l:List Env),(∀ b∈frs l,b∈X.fs)→X.s₀.heap.FunFrames X.base l→s.heap.FunFrames X.base l:=by
    intro l
    induction l with
    | nil=>intro _ _; trivial
    | cons env r ih =>
      intro hs hl
      obtain ⟨hk,⟨L,o,hf,hn,ho,hd⟩,hr⟩:=hl
      have hL:L∈X.fs:=hs L (by unfold frs; rw [List.filterMap_cons,hf]; exact List.mem_cons_self)
      obtain ⟨sl,e⟩:=I.base.slot L o ho (I.ok.frf L hL) hL fun z=>I.ok.exfs L z hL
      exact ⟨hk,⟨L,_,hf,hn,e,hd⟩,ih (fun b hb=>hs b (by unfold frs; rw [List.filterMap_cons,hf]; exact List.mem_cons_of_mem _ hb)) hr⟩
  exact all X.outer (fun _ hb=>hb) I.ok.funs
theorem Inv.stack (I:Inv X pins σ H s):s.heap.FunFrames X.base X.stack:=by
  rcases I.ok.stk with e | ⟨e,hf⟩
  · rw [e]; exact I.funs
  · rw [e]
    obtain ⟨m,hn,_⟩:=I.loc
    refine .cons (by rw [I.ok.kind]; decide) hf hn ?_ I.funs
    exact Heap.get?_none_of_le (Nat.le_trans I.ok.bsz I.ok.above)
theorem Inv.stkSub (I:Inv X pins σ H s):∀ b∈frs X.stack,b∈X.env.locals :: X.fs:=fun b hb=>by
  rcases I.ok.stk with e | ⟨e,hf⟩
  · rw [e] at hb; exact List.mem_cons_of_mem _ hb
  · rw [e] at hb
    unfold frs at hb
    rw [List.filterMap_cons,hf] at hb
    exact hb
theorem Inv.stkFree (I:Inv X pins σ H s):∀ b∈frs X.stack,H b = none:=fun b hb=>by
  rcases List.mem_cons.mp (I.stkSub b hb) with e | hb
  · rw [e]; exact I.free
  · obtain ⟨_,o,ho,_⟩:=I.ok.funs.mem hb
    exact I.base.free b o ho (I.ok.frf b hb) fun z=>I.ok.exfs b z hb
theorem Inv.step {g':Array GenState} {t':Nat} {d':Drawn} {ch:List Addr} (I:Inv X pins σ H s)
    (hch:∀ b∈ch,(b∈X.ex∨X.s₀.heap.objs.size≤b)∧b≠X.env.locals∧(∀ x c,X.env.cells.lookup x = some c→c≠b)∧∀ p∈X.pn ++ pins,p.1≠b)
    (keep:∀ b o,b≠X.env.locals→b ∉ X.fs→b ∉ ch→s.heap.get? b = some o→H b = none→h'.get? b = some o)
    (slot:∀ b o,b≠X.env.locals→b∈X.fs→b ∉ ch→s.heap.get? b = some o→H b = none→∃ sl,h'.get? b = some { o with slots:=sl }) (free:∀ b o,b ∉ ch→s.heap.get? b = some o→H b = none→H' b = none)
    (there:∀ b o,b ∉ ch→s.heap.get? b = some o→∃ o',h'.get? b = some o')
    (tups:∀ b xs,H b = some (.tup xs)→H' b = some (.tup xs)) (frzs:∀ b o u,H b = some (.frz o u)→H' b = some (.frz o u)) (tbls:∀ b ps,H b = some (.tbl ps)→∃ more,H' b = some (.tbl (ps ++ more)))
    (ns:∀ m,s.heap.Ns X.env.locals m→h'.Ns X.env.locals m) (hok:HOk X.prog X.w H' h') (hg:AllBare g') :
    Inv X pins σ H' { s with heap:=h',gens:=g',drawn:=d',toks:=t' }:=by
  have neL:∀ b o,X.s₀.heap.get? b = some o→b≠X.env.locals:=fun b o e=>Nat.ne_of_lt (Nat.lt_of_lt_of_le (Heap.lt_size e) I.ok.above)
  have neC:∀ b o,X.s₀.heap.get? b = some o→b ∉ X.ex→b ∉ ch:=fun b o e hx hb=>by
    rcases (hch b hb).1 with z | z
    · exact hx z
    · exact absurd (Nat.lt_of_lt_of_le (Heap.lt_size e) z) (Nat.lt_irrefl _)
  have cellK:∀ x c,X.env.cells.lookup x = some c→∀ v,s.heap.IsCell c v→h'.IsCell c v:=fun x c e v ⟨o,ho,hd⟩=>by
    have nch:c ∉ ch:=fun z=>(hch c z).2.2.1 x c e rfl
    by_cases hc:c∈X.fs
    · obtain ⟨sl,q⟩:=slot c o (I.cne x c e) hc nch ho (I.freeC x c e)
      exact ⟨_,q,hd⟩
    · exact ⟨o,keep c o (I.cne x c e) hc nch ho (I.freeC x c e),hd⟩
  refine ⟨I.ok,I.os,hg,⟨fun b o e n hb hx=>?_,fun b o e n hb hx=>?_,fun b o e n hx=>?_,fun b o e hx=>?_,fun b xs e=>tups b xs (I.base.tups b xs e),fun b o xs e=>frzs b o xs (I.base.frzs b o xs e),fun b ps e=>?_⟩,?_,fun x c e=>?_,?_,fun x c e=>?_,fun p hp=>?_,hok,I.len⟩
  · exact keep b o (neL b o e) hb (neC b o e hx) (I.base.keep b o e n hb hx) (I.base.free b o e n hx)
  · obtain ⟨sl,e1⟩:=I.base.slot b o e n hb hx
    obtain ⟨sl',e2⟩:=slot b _ (neL b o e) hb (neC b o e hx) e1 (I.base.free b o e n hx)
    exact ⟨sl',e2⟩
  · obtain ⟨o',e1⟩:=I.base.there b o e hx
    exact free b o' (neC b o e hx) e1 (I.base.free b o e n hx)
  · obtain ⟨o',e1⟩:=I.base.there b o e hx
    exact there b o' (neC b o e hx) e1
  · obtain ⟨m1,e1⟩:=I.base.tbls b ps e
    obtain ⟨m2,e2⟩:=tbls b _ e1
    exact ⟨m1 ++ m2,by rw [e2,Array.append_assoc]⟩
  · obtain ⟨m,hn,hl⟩:=I.loc
    refine ⟨m,ns m hn,fun i x v e1 e2 e3=>?_⟩
    obtain ⟨u,r,l⟩:=hl i x v e1 e2 e3
    refine ⟨u,r,?_⟩
    rcases l with l | ⟨k,c,e,z⟩
    · exact .inl l
    · exact .inr ⟨k,c,e,cellK x c e _ z⟩
  · obtain ⟨v,z⟩:=I.cell x c e
    exact ⟨v,cellK x c e v z⟩
  · obtain ⟨m,⟨o,_,_,ho,_⟩,_⟩:=I.loc
    exact free _ o (fun z=>(hch _ z).2.1 rfl) ho I.free
  · obtain ⟨v,o,ho,hd⟩:=I.cell x c e
    exact free c o (fun z=>(hch c z).2.2.1 x c e rfl) ho (I.freeC x c e)
  · obtain ⟨e,n,ne,nf,d⟩:=I.pin p hp
    have nch:p.1 ∉ ch:=fun z=>(hch p.1 z).2.2.2 p hp rfl
    exact ⟨keep p.1 p.2 ne nf nch e n,free p.1 p.2 nch e n,ne,nf,d⟩
theorem Inv.un {t':Nat} (I:Inv X pins σ H s) (u:Un X.fs [] H H' s.heap h') (hok:HOk X.prog X.w H' h'):Inv X pins σ H' { s with heap:=h',toks:=t' }:=by
  obtain ⟨m,⟨o,es,ep,ho,r⟩,_⟩:=id I.loc
  obtain ⟨sl,hL⟩:=u.any ho I.free (by simp)
  exact I.step (g':=s.gens) (d':=s.drawn) (ch:=[]) (fun _ z=>nomatch z) (fun b o _ hb _ e n=>u.keep b o e n hb (by simp)) (fun b o _ hb _ e n=>u.slot b o e n hb (by simp)) (fun b o _ e n=>u.free b o e n (by simp)) (fun b o _ e=>u.there b o e (by simp)) u.tups u.frzs u.tbls (fun m' hm=>by
    obtain ⟨o',es',ep',ho',r'⟩:=hm
    rw [ho] at ho'; cases ho'
    exact ⟨_,es',ep',hL,r'⟩) hok I.bare
theorem Inv.call {g':Array GenState} {t':Nat} {d':Drawn} {ch:List Addr} (I:Inv X pins σ H s) (u:Un (frs X.stack) ch H H' s.heap h') (hok:HOk X.prog X.w H' h') (hg:AllBare g')
    (hch:∀ b∈ch,(b∈X.ex∨X.s₀.heap.objs.size≤b)∧b≠X.env.locals∧(∀ x c,X.env.cells.lookup x = some c→c≠b)∧∀ p∈X.pn ++ pins,p.1≠b) :
    Inv X pins σ H' { s with heap:=h',gens:=g',drawn:=d',toks:=t' }:=by
  obtain ⟨m,⟨o,es,ep,ho,r⟩,_⟩:=id I.loc
  obtain ⟨sl,hL⟩:=u.any ho I.free fun z=>(hch _ z).2.1 rfl
  exact I.step (ch:=ch) hch (fun b o hL hb hc e n=>u.keep b o e n (fun z=>(List.mem_cons.mp (I.stkSub b z)).elim hL hb) hc) (fun b o _ _ hc e n=>u.any e n hc) (fun b o hc e n=>u.free b o e n hc) (fun b o hc e=>u.there b o e hc) u.tups u.frzs u.tbls (fun m' hm=>by
    obtain ⟨o',es',ep',ho',r'⟩:=hm
    rw [ho] at ho'; cases ho'
    exact ⟨_,es',ep',hL,r'⟩) hok hg
theorem Inv.turned {t':Nat} {it:Addr} (I:Inv X pins σ H s) (k:∀ b o,b≠it→s.heap.get? b = some o→h'.get? b = some o) (hn:H it = none) (hL:it≠X.env.locals)
    (h1:it∈X.ex∨X.s₀.heap.objs.size≤it) (h2:∀ x c,X.env.cells.lookup x = some c→c≠it) (h3:∀ p∈X.pn ++ pins,p.1≠it):Inv X pins σ H { s with heap:=h',toks:=t' }:=by
  have nit:∀ b u,H b = some u→b≠it:=fun b u e z=>by rw [z,hn] at e; cases e
  refine I.step (g':=s.gens) (d':=s.drawn) (ch:=[it]) (fun b hb=>?_) (fun b o _ _ hc e _=>k b o (fun z=>hc (by simp [z])) e) (fun b o _ _ hc e _=>⟨o.slots,k b o (fun z=>hc (by simp [z])) e⟩) (fun _ _ _ _ n=>n)
    (fun b o hc e=>⟨o,k b o (fun z=>hc (by simp [z])) e⟩) (fun _ _ e=>e) (fun _ _ _ e=>e) (fun b ps e=>⟨#[],by rw [e]; simp⟩) (fun m hm=>?_) (fun b u e=>?_) I.bare
  · have e:b = it:=by simpa using hb
    subst e
    exact ⟨h1,hL,h2,h3⟩
  · obtain ⟨o,es,ep,ho,r⟩:=hm
    exact ⟨o,es,ep,k _ o (Ne.symm hL) ho,r⟩
  · refine (I.hok b u e).stay (fun c v hc q=>k c v ?_ q) (fun _ q=>q) fun _ _ q=>q
    rcases hc with z | z
    · rw [z]; exact nit b u e
    · exact nit c _ z
theorem Inv.tok (I:Inv X pins σ H s) (t:Nat):Inv X pins σ H { s with toks:=t }:=I.un (h':=s.heap) (t':=t) Un.refl I.hok
theorem Inv.kept {t':Nat} (I:Inv X pins σ H s) (k:∀ b u,s.heap.get? b = some u→h'.get? b = some u):Inv X pins σ H { s with heap:=h',toks:=t' }:=I.un (Un.kept k) (I.hok.kept k)
theorem Inv.laid {a:Addr} {o:HO} {t':Nat} (I:Inv X pins σ H s) (k:∀ b u,s.heap.get? b = some u→h'.get? b = some u) (hp:s.heap.objs.size≤a) (new:ObjOk X.prog X.w (upd H a o) h' a o) :
    Inv X pins σ (upd H a o) { s with heap:=h',toks:=t' }:=I.un (Un.laid k hp (I.hok.fresh hp)) (I.hok.laid k hp new)
theorem Inv.write {x e:Addr} {o:HO} {t':Nat} (I:Inv X pins σ H s) (mu:Mut (H x)) (he:e = x∨H e = some (.own x)) (k:∀ b u,b≠e→s.heap.get? b = some u→h'.get? b = some u) (heo:∃ u,h'.get? e = some u)
    (new:ObjOk X.prog X.w (upd H x o) h' x o):Inv X pins σ (upd H x o) { s with heap:=h',toks:=t' }:=I.un (Un.write mu he k heo) (I.hok.write mu he k heo new)
theorem Inv.pins_of {pins':List (Addr × Obj)} (I:Inv X pins σ H s) (h:∀ p∈pins',s.heap.get? p.1 = some p.2∧H p.1 = none∧p.1≠X.env.locals∧p.1 ∉ X.fs∧∀ v,p.2.data≠.cell v):Inv X pins' σ H s :=
  ⟨I.ok,I.os,I.bare,I.base,I.loc,I.cell,I.free,I.freeC,fun p hp=>(List.mem_append.mp hp).elim (fun z=>I.pin p (List.mem_append_left _ z)) (h p),I.hok,I.len⟩
theorem nodup_ix {N:List Str} (hN:N.Nodup) {i j:Nat} {x:Str} (a:N[i]? = some x) (b:N[j]? = some x):i = j:=by
  obtain ⟨h1,e1⟩:=List.getElem?_eq_some_iff.mp a
  obtain ⟨h2,e2⟩:=List.getElem?_eq_some_iff.mp b
  exact (List.getElem_inj hN).mp (e1.trans e2.symm)
theorem store_ok2 {M:Model} {A:Around} {E:Value→Shared→Prop} {i:Nat} {x:Str} {v:V} {u:Value} {Q:Unit→Shared→Prop} (I:Inv X pins σ H s) (hN:X.N.Nodup) (hi:X.N[i]? = some x) (hx:Loc X.env.scope x) (r:RelV v u)
    (h:∀ s',Inv X pins (σ.set i (some v)) H s'→(∃ a,Heap.SameBut a s.heap s'.heap∧(a = X.env.locals∨X.env.cells.lookup x = some a))→Q () s') (hf:X.fn x = true∨X.env.scope.names.lookup x = some .local:=by first | exact .inl rfl | exact .inr rfl | assumption):wpAny M A (storeName X.env x u) Q E s:=by
  obtain ⟨m,hn,hl⟩:=id I.loc
  have hcls:(X.env.scope.kind == .class || (X.env.scope.kind == .module && X.env.locals != X.env.globals)) = false:=by rw [I.ok.kind]; rfl
  have hiσ:i < σ.length:=by rw [I.len]; exact (List.getElem?_eq_some_iff.mp hi).1
  have cne:=I.cne
  have tracked:∀ {a:Addr} {h':Heap},(∃ o,s.heap.get? a = some o∧H a = none)→Heap.SameBut a s.heap h'→HOk X.prog X.w H h':=fun {a h'} ha hs b ob e=>by
    obtain ⟨_,_,hfree⟩:=ha
    refine (I.hok b ob e).stay (fun c w' hc q=>(hs.2 c ?_).trans q) (fun _ q=>q) fun _ _ q=>q
    rintro rfl
    rcases hc with rfl | hc
    · rw [hfree] at e; cases e
    · rw [hfree] at hc; cases hc
  rcases hx with hk | hk
  · refine wpAny_storeName_local hk hn (fun h' hn' hs=>?_) hcls
    obtain ⟨oL,_,_,hoL,_⟩:=id hn
    refine h _ ⟨I.ok,I.os,I.bare,⟨fun b o e n hb hx=>?_,fun b o e n hb hx=>?_,I.base.free,fun b o e hx=>?_,I.base.tups,I.base.frzs,I.base.tbls⟩,⟨_,hn',fun j y v' e1 e2 e3=>?_⟩,fun y c e=>?_,I.free,I.freeC,fun p hp=>?_,tracked ⟨oL,hoL,I.free⟩ hs,by simpa using I.len⟩ ⟨_,hs,.inl rfl⟩
    · exact (hs.2 b (Nat.ne_of_lt (Nat.lt_of_lt_of_le (Heap.lt_size e) I.ok.above))).trans (I.base.keep b o e n hb hx)
    · obtain ⟨sl,e1⟩:=I.base.slot b o e n hb hx
      exact ⟨sl,(hs.2 b (Nat.ne_of_lt (Nat.lt_of_lt_of_le (Heap.lt_size e) I.ok.above))).trans e1⟩
    · obtain ⟨o',e1⟩:=I.base.there b o e hx
      exact ⟨o',(hs.2 b (Nat.ne_of_lt (Nat.lt_of_lt_of_le (Heap.lt_size e) I.ok.above))).trans e1⟩
    · by_cases hj:j = i
      · subst hj
        rw [hi] at e1; cases e1
        rw [List.getElem?_set_self hiσ] at e2
        cases e2
        exact ⟨u,r,.inl ⟨hk,by simp⟩⟩
      · rw [List.getElem?_set_ne (Ne.symm hj)] at e2
        obtain ⟨u',r',q⟩:=hl j y v' e1 e2 e3
        refine ⟨u',r',?_⟩
        rcases q with ⟨k,e⟩ | ⟨k,c,e,z⟩
        · refine .inl ⟨k,?_⟩
          have:y≠x:=fun e=>hj (nodup_ix hN e1 (e ▸ hi))
          simp [this,e]
        · exact .inr ⟨k,c,e,z.sameBut hs (cne y c e)⟩
    · obtain ⟨w',z⟩:=I.cell y c e
      exact ⟨w',z.sameBut hs (cne y c e)⟩
    · obtain ⟨e,n,ne,nf,d⟩:=I.pin p hp
      exact ⟨(hs.2 p.1 ne).trans e,n,ne,nf,d⟩
  · have hfn:X.fn x = true:=by
      rcases hf with z | z
      · exact z
      · rw [z] at hk; cases hk
    obtain ⟨c,hc⟩:=I.ok.has x (.inl hk)
    obtain ⟨w',z⟩:=I.cell x c hc
    refine wpAny_storeName_cell I.ok.kind hk hc z (fun h' hc' hs=>?_)
    obtain ⟨oc,hoc,hocd⟩:=id z
    refine h { s with heap:=h' } ⟨I.ok,I.os,I.bare,⟨fun b o e n hb hx=>?_,fun b o e n hb hx=>?_,I.base.free,fun b o e hx=>?_,I.base.tups,I.base.frzs,I.base.tbls⟩,⟨m,hn.sameBut hs (Ne.symm (cne x c hc)),fun j y v' e1 e2 e3=>?_⟩,fun y c' e=>?_,I.free,I.freeC,fun p hp=>?_,tracked ⟨oc,hoc,I.freeC x c hc⟩ hs,by simpa using I.len⟩ ⟨c,hs,.inr hc⟩
    · exact (hs.2 b (Nat.ne_of_lt (Nat.lt_of_lt_of_le (Heap.lt_size e) (I.ok.cab x c hfn hc)))).trans (I.base.keep b o e n hb hx)
    · obtain ⟨sl,e1⟩:=I.base.slot b o e n hb hx
      exact ⟨sl,(hs.2 b (Nat.ne_of_lt (Nat.lt_of_lt_of_le (Heap.lt_size e) (I.ok.cab x c hfn hc)))).trans e1⟩
    · obtain ⟨o',e1⟩:=I.base.there b o e hx
      exact ⟨o',(hs.2 b (Nat.ne_of_lt (Nat.lt_of_lt_of_le (Heap.lt_size e) (I.ok.cab x c hfn hc)))).trans e1⟩
    · by_cases hj:j = i
      · subst hj
        rw [hi] at e1; cases e1
        rw [List.getElem?_set_self hiσ] at e2
        cases e2
        exact ⟨u,r,.inr ⟨.inl hk,c,hc,hc'⟩⟩
      · rw [List.getElem?_set_ne (Ne.symm hj)] at e2
        obtain ⟨u',r',q⟩:=hl j y v' e1 e2 e3
        refine ⟨u',r',?_⟩
        rcases q with q | ⟨k,c',e,z'⟩
        · exact .inl q
        · refine .inr ⟨k,c',e,z'.sameBut hs ?_⟩
          rintro rfl
          exact hj (nodup_ix hN e1 (I.ok.inj _ _ _ e hc ▸ hi))
    · by_cases hcc:c' = c
      · subst hcc; exact ⟨_,hc'⟩
      · obtain ⟨w2,z2⟩:=I.cell y c' e
        exact ⟨w2,z2.sameBut hs hcc⟩
    · obtain ⟨e,n,ne,nf,d⟩:=I.pin p hp
      refine ⟨(hs.2 p.1 ?_).trans e,n,ne,nf,d⟩
      intro q
      rw [q,hoc] at e
      have q':oc = p.2:=Option.some.inj e
      exact d w' (by rw [← q']; exact hocd)
theorem store_ok {M:Model} {A:Around} {E:Value→Shared→Prop} {i:Nat} {x:Str} {v:V} {u:Value} {Q:Unit→Shared→Prop} (I:Inv X pins σ H s) (hN:X.N.Nodup) (hi:X.N[i]? = some x) (hx:Loc X.env.scope x) (r:RelV v u)
    (h:∀ s',Inv X pins (σ.set i (some v)) H s'→Q () s') (hf:X.fn x = true∨X.env.scope.names.lookup x = some .local:=by first | exact .inl rfl | exact .inr rfl | assumption):wpAny M A (storeName X.env x u) Q E s :=
  store_ok2 I hN hi hx r (fun s' I' _=>h s' I') hf
theorem Inv.call' {s':Shared} {ch:List Addr} (I:Inv X pins σ H s) (ho:s'.os = s.os) (u:Un (frs X.stack) ch H H' s.heap s'.heap) (hok:HOk X.prog X.w H' s'.heap) (hg:AllBare s'.gens)
    (hch:∀ b∈ch,(b∈X.ex∨X.s₀.heap.objs.size≤b)∧b≠X.env.locals∧(∀ x c,X.env.cells.lookup x = some c→c≠b)∧∀ p∈X.pn ++ pins,p.1≠b):Inv X pins σ H' s':=by
  obtain ⟨h',g',d',t',o'⟩:=s'
  have e:o' = s.os:=ho
  subst e
  exact I.call (g':=g') (t':=t') (d':=d') u hok hg hch
end
abbrev XK:=Value→Option Addr→Hp→Prop
abbrev St:=List (Option V)
abbrev VK:=V→Hp→Prop
abbrev TE:=St→Hp→VK→Prop
abbrev TT:=St→Hp→(Bool→Hp→Prop)→Prop
abbrev TA:=St→Hp→(List V→Hp→Prop)→Prop
structure Ends where
  nx:St→Hp→Prop
  rt:VK
  bk:St→Hp→Prop:=fun _ _=>False
  ct:St→Hp→Prop:=fun _ _=>False
abbrev TS:=Ends→St→Hp→Prop
def EP (X:Cx) (pins:List (Addr × Obj)) (σ:St) (Q:VK) (u:Value) (s':Shared):Prop:=∃ v H',Inv X pins σ H' s'∧RelV v u∧Q v H'
def TP (X:Cx) (pins:List (Addr × Obj)) (σ:St) (Q:Bool→Hp→Prop) (b:Bool) (s':Shared):Prop:=∃ H',Inv X pins σ H' s'∧Q b H'
def AP (X:Cx) (pins:List (Addr × Obj)) (σ:St) (Q:List V→Hp→Prop) (us:List Value) (s':Shared):Prop:=∃ vs H',Inv X pins σ H' s'∧Vals vs us∧Q vs H'
def SP (X:Cx) (pins:List (Addr × Obj)) (D:Ends) (f:Flow) (s':Shared):Prop :=
  match f with
  | .next=>∃ σ' H',Inv X pins σ' H' s'∧D.nx σ' H'
  | .brk=>∃ σ' H',Inv X pins σ' H' s'∧D.bk σ' H'
  | .cont=>∃ σ' H',Inv X pins σ' H' s'∧D.ct σ' H'
  | .ret u=>∃ v σ' H',Inv X pins σ' H' s'∧RelV v u∧D.rt v H'
def PE (X:Cx) (e:Expr) (t:TE):Prop :=
  ∀ (pins:List (Addr × Obj)) (s:Shared) (σ:St) (H:Hp) (Q:VK),Inv X pins σ H s→t σ H Q→wpAny (model X.prog X.w) X.A (eval e X.env) (EP X pins σ Q) X.xe s
def PT (X:Cx) (e:Expr) (t:TT):Prop :=
  ∀ (pins:List (Addr × Obj)) (s:Shared) (σ:St) (H:Hp) (Q:Bool→Hp→Prop),Inv X pins σ H s→t σ H Q→wpAny (model X.prog X.w) X.A (isTrue e X.env (eval e X.env)) (TP X pins σ Q) X.xe s
def PW (X:Cx) (e:Expr) (t:TT):Prop :=
  ∀ (whole:Sem Value) (pins:List (Addr × Obj)) (s:Shared) (σ:St) (H:Hp) (Q:Bool→Hp→Prop),Inv X pins σ H s→t σ H Q→wpAny (model X.prog X.w) X.A (isTrue e X.env whole) (TP X pins σ Q) X.xe s
theorem PW.pt {X:Cx} {e:Expr} {t:TT} (h:PW X e t):PT X e t:=h _
def PA (X:Cx) (es:List Expr) (t:TA):Prop :=
  ∀ (pos:Pos) (pins:List (Addr × Obj)) (s:Shared) (σ:St) (H:Hp) (Q:List V→Hp→Prop),Inv X pins σ H s→t σ H Q→wpAny (model X.prog X.w) X.A (spliced (backTo pos (starEach es X.env))) (AP X pins σ Q) X.xe s
def PS (X:Cx) (st:Stmt) (t:TS):Prop :=
  ∀ (pins:List (Addr × Obj)) (s:Shared) (σ:St) (H:Hp) (D:Ends),Inv X pins σ H s→t D σ H→wpAny (model X.prog X.w) X.A (exec st X.env) (SP X pins D) X.xe s
def PSs (X:Cx) (st:List Stmt) (t:TS):Prop :=
  ∀ (pins:List (Addr × Obj)) (s:Shared) (σ:St) (H:Hp) (D:Ends),Inv X pins σ H s→t D σ H→wpAny (model X.prog X.w) X.A (execs st X.env) (SP X pins D) X.xe s
theorem thn {α:Type} {t:Sem α} {Q Q':α→Shared→Prop} {M:Model} {A:Around} {E:Value→Shared→Prop} {s:Shared} (h:wpAny M A t Q E s) (hQ:∀ a s,Q a s→Q' a s):wpAny M A t Q' E s:=wpAny_mono h hQ fun _ _ x=>x
end L2
namespace L2
open PySem PySem.Spec PyProof.Rows
section
variable {X:Cx}
def tVar (i:Nat):TE:=fun σ H Q=>∃ v,σ[i]? = some (some v)∧Q v H
def tC (v:V):TE:=fun _ H Q=>Q v H
theorem pe_var {i:Nat} {x:Str} {pos:Pos} (hN:X.N[i]? = some x) (hv:Vis X.env.scope x) (hd:(x == ("__debug__" : Str)) = false:=by decide) (hcd:(x == ("__classdict__" : Str)) = false:=by decide):PE X (.Name x pos) (tVar i):=by
  intro pins s σ H Q I h
  obtain ⟨v,e,h⟩:=h
  obtain ⟨m,hn,hl⟩:=I.loc
  obtain ⟨u,r,l⟩:=hl i x v hN e hv
  have fin:EP X pins σ Q u s:=⟨v,H,I,r,h⟩
  rcases l with ⟨hk,hm⟩ | ⟨hk,c,hc,hcell⟩
  · exact wpAny_Name (wpAny_loadName_local I.ok.kind hk hn hm fin) hd
  · rcases hk with hk | hk
    · exact wpAny_Name (wpAny_loadName_cell I.ok.kind hk hc hcell fin) hd
    · exact wpAny_Name (wpAny_loadName_free I.ok.kind hk hc hcell fin hcd) hd
theorem pe_int {i j pos}:PE X (.Constant (.int i) j pos) (tC (.int i)):=fun _ _ _ H _ I h=>wpAny_Constant_int ⟨.int i,H,I.tok _,⟨_,rfl⟩,h⟩
theorem pe_bl {b j pos}:PE X (.Constant (.bool b) j pos) (tC (.bl b)):=fun _ _ _ H _ I h=>Constant_bool ⟨.bl b,H,I,rfl,h⟩
theorem pe_non {j pos}:PE X (.Constant .none j pos) (tC .non):=fun _ _ _ H _ I h=>Constant_none ⟨.non,H,I,rfl,h⟩
theorem pe_str {x j pos}:PE X (.Constant (.str x) j pos) (tC (.str x)):=fun _ _ _ H _ I h=>Calls.Constant_str ⟨.str x,H,I.tok _,⟨_,rfl⟩,h⟩
def Gl (X:Cx) (x:Str):Prop:=X.env.kindOf x = some .globalImplicit
theorem ld_glob {E:Value→Shared→Prop} {pins:List (Addr × Obj)} {s:Shared} {σ:St} {H:Hp} {x:Str} {u:Value} {pos:Pos} {Q:Value→Shared→Prop} (I:Inv X pins σ H s) (hg:Gl X x) (hm:X.mg x = some u) (h:Q u s)
    (hd:(x == ("__debug__" : Str)) = false:=by decide):wpAny (model X.prog X.w) X.A (eval (.Name x pos) X.env) Q E s :=
  Calls.Name_function_global I.ok.kind hg (Calls.loadGlobal_global (by rw [I.ok.glob]; exact I.mod.glob.keeps I.bk) hm h) hd
theorem ld_blt {E:Value→Shared→Prop} {pins:List (Addr × Obj)} {s:Shared} {σ:St} {H:Hp} {x:Str} {u:Value} {pos:Pos} {Q:Value→Shared→Prop} (I:Inv X pins σ H s) (hg:Gl X x) (hm:X.mg x = none) (hv:bootBuiltins x = some u) (h:Q u s)
    (hn:x ≠ "__name__" := by decide) (hd:(x == ("__debug__" : Str)) = false:=by decide):wpAny (model X.prog X.w) X.A (eval (.Name x pos) X.env) Q E s:=by
  obtain ⟨mb,h1,h2⟩:=I.mod.blt
  exact Calls.Name_function_global I.ok.kind hg (Calls.loadGlobal_builtin (by rw [I.ok.glob]; exact I.mod.glob.keeps I.bk) hm (by rw [I.ok.blt]; exact h1.keeps I.bk) ((h2 x hn).trans hv) h) hd
theorem pe_glob {x:Str} {v:V} {u:Value} {pos:Pos} (hg:Gl X x) (hm:X.mg x = some u) (r:RelV v u) (hd:(x == ("__debug__" : Str)) = false:=by decide):PE X (.Name x pos) (tC v) :=
  fun _ _ _ H _ I h=>ld_glob I hg hm ⟨v,H,I,r,h⟩ hd
theorem pe_bltn {x:Str} {v:V} {u:Value} {pos:Pos} (hg:Gl X x) (hm:X.mg x = none) (hv:bootBuiltins x = some u) (r:RelV v u) (hn:x ≠ "__name__" := by decide) (hd:(x == ("__debug__" : Str)) = false:=by decide):PE X (.Name x pos) (tC v) :=
  fun _ _ _ H _ I h=>ld_blt I hg hm hv ⟨v,H,I,r,h⟩ hn hd
variable {a b:Expr} {ta tb:TE} {pos:Pos}
def PC (X:Cx) (op:CmpOp) (a b:Expr) (t:TE):Prop :=
  ∀ (pins:List (Addr × Obj)) (s:Shared) (σ:St) (H:Hp) (Q:VK),Inv X pins σ H s→t σ H Q →
    wpAny (model X.prog X.w) X.A (eval a X.env) (fun v s₁=>wpAny (model X.prog X.w) X.A (eval b X.env) (fun u s₂=>wpAny (model X.prog X.w) X.A (compareOp op v u) (EP X pins σ Q) X.xe s₂) X.xe s₁) X.xe s
theorem nobehind (b:Expr) {op:CmpOp} (h:op≠.In) (h2:op≠.NotIn):behindInMarks op b = false:=by
  have e1:(op == CmpOp.In) = false:=by cases op <;> first | rfl | exact absurd rfl h
  have e2:(op == CmpOp.NotIn) = false:=by cases op <;> first | rfl | exact absurd rfl h2
  cases b <;> simp [behindInMarks,e1,e2]
def tIsN (ta:TE):TE:=fun σ H Q=>ta σ H fun x H1=>Q (.bl (decide (x = .non))) H1
def tNotN (ta:TE):TE:=fun σ H Q=>ta σ H fun x H1=>Q (.bl (!decide (x = .non))) H1
theorem RelV.none_iff {x:V} {v:Value} (r:RelV x v):(v == Value.none) = decide (x = .non):=by
  cases x with
  | non=>cases r; rfl
  | bl _=>cases r; rfl
  | int _=>obtain ⟨t,rfl⟩:=r; rfl
  | str _=>obtain ⟨t,rfl⟩:=r; rfl
  | byt _=>obtain ⟨t,rfl⟩:=r; rfl
  | flt _=>obtain ⟨t,rfl⟩:=r; rfl
  | ref _=>cases r; rfl
  | ty _=>cases r; rfl
theorem pc_isN {j pos'} (ha:PE X a ta):PC X .Is a (.Constant .none j pos') (tIsN ta):=by
  intro pins s σ H Q I h
  refine thn (ha pins s σ H _ I h) fun v s1 ⟨x,H1,I1,r1,q1⟩=>?_
  exact Constant_none (is_none_gen ⟨.bl _,H1,I1,by rw [r1.none_iff]; rfl,q1⟩)
theorem pc_notN {j pos'} (ha:PE X a ta):PC X .IsNot a (.Constant .none j pos') (tNotN ta):=by
  intro pins s σ H Q I h
  refine thn (ha pins s σ H _ I h) fun v s1 ⟨x,H1,I1,r1,q1⟩=>?_
  exact Constant_none (isnot_none_gen ⟨.bl _,H1,I1,by rw [r1.none_iff]; rfl,q1⟩)
def tB (t:TE):TT:=fun σ H Q=>t σ H fun x H1=>∃ c,x = .bl c∧Q c H1
theorem pe_cmp {op:CmpOp} {t:TE} (h:PC X op a b t) (h1:behindInMarks op b = false:=by first | exact nobehind _ (by decide) (by decide) | rfl):PE X (.Compare a [op] [b] pos) t:=fun pins s σ H Q I hw=>wpAny_Compare1 (h pins s σ H Q I hw) h1
theorem pt_cmp {op:CmpOp} {t:TE} (h:PC X op a b t) (h1:behindInMarks op b = false:=by first | exact nobehind _ (by decide) (by decide) | rfl):PT X (.Compare a [op] [b] pos) (tB t):=by
  intro pins s σ H Q I hw
  refine wpAny_isTrue_Compare1 (thn (h pins s σ H _ I hw) fun v s1 h1=>thn h1 fun u s2 h2=>thn h2 fun c s3 ⟨x,H1,I1,r1,q1⟩=>?_) h1
  obtain ⟨d,rfl,q⟩:=q1
  cases r1
  exact wpAny_truthy_bool ⟨H1,I1,q⟩
theorem pt_val {e:Expr} {t:TE} (h:PE X e t) (he:∀ whole,isTrue e X.env whole = (do let v ← whole; standAt e.pos; holding [v] (truthy v)):=by intro _; rfl):PT X e (tB t):=by
  intro pins s σ H Q I hw
  refine isTrue_plain (thn (h pins s σ H _ I hw) fun v s1 ⟨x,H1,I1,r1,q1⟩=>?_) (he _)
  obtain ⟨d,rfl,q⟩:=q1
  cases r1
  exact wpAny_truthy_bool ⟨H1,I1,q⟩
variable {tA tB':TT} {rest:List Expr}
def tAnd (t u:TT):TT:=fun σ H Q=>t σ H fun c H1=>if c = true then u σ H1 Q else Q false H1
def tOr (t u:TT):TT:=fun σ H Q=>t σ H fun c H1=>if c = true then Q true H1 else u σ H1 Q
def tNot (t:TT):TT:=fun σ H Q=>t σ H fun c H1=>Q (!c) H1
theorem pw_and1 (ha:PT X a tA):PW X (.BoolOp .And [a] pos) tA:=by
  intro wh pins s σ H Q I h
  refine isTrue_and (thn (ha pins s σ H Q I h) fun c s1 e=>?_)
  cases c with
  | true=>exact isTrue_and_nil e
  | false=>exact e
theorem pw_or1 (ha:PT X a tA):PW X (.BoolOp .Or [a] pos) tA:=by
  intro wh pins s σ H Q I h
  refine isTrue_or (thn (ha pins s σ H Q I h) fun c s1 e=>?_)
  cases c with
  | false=>exact isTrue_or_nil e
  | true=>exact e
theorem pw_and (ha:PT X a tA) (hb:PW X (.BoolOp .And (b :: rest) pos) tB'):PW X (.BoolOp .And (a :: b :: rest) pos) (tAnd tA tB'):=by
  intro wh pins s σ H Q I h
  refine isTrue_and (thn (ha pins s σ H _ I h) fun c s1 ⟨H1,I1,q1⟩=>?_)
  cases c with
  | true=>exact hb wh pins s1 σ H1 Q I1 q1
  | false=>exact ⟨H1,I1,q1⟩
theorem pw_or (ha:PT X a tA) (hb:PW X (.BoolOp .Or (b :: rest) pos) tB'):PW X (.BoolOp .Or (a :: b :: rest) pos) (tOr tA tB'):=by
  intro wh pins s σ H Q I h
  refine isTrue_or (thn (ha pins s σ H _ I h) fun c s1 ⟨H1,I1,q1⟩=>?_)
  cases c with
  | true=>exact ⟨H1,I1,q1⟩
  | false=>exact hb wh pins s1 σ H1 Q I1 q1
theorem pt_not (ha:PT X a tA):PT X (.UnaryOp .Not a pos) (tNot tA):=by
  intro pins s σ H Q I h
  exact isTrue_not (ha pins s σ H (fun c H1=>Q (!c) H1) I h)
def tAndV (ta tb:TE):TE:=fun σ H Q=>ta σ H fun x H1=>∃ c,x = .bl c∧if c = true then tb σ H1 Q else Q (.bl false) H1
def tNotV (ta:TE):TE:=fun σ H Q=>ta σ H fun x H1=>∃ c,x = .bl c∧Q (.bl (!c)) H1
theorem pe_one {op} {t:TE} (h:PE X a t):PE X (.BoolOp op [a] pos) t:=fun pins s σ H Q I hw=>BoolOp_one (h pins s σ H Q I hw)
theorem pe_and (ha:PE X a ta) (hb:PE X (.BoolOp .And (b :: rest) pos) tb):PE X (.BoolOp .And (a :: b :: rest) pos) (tAndV ta tb):=by
  intro pins s σ H Q I h
  refine BoolOp_and (thn (ha pins s σ H _ I h) fun v s1 ⟨x,H1,I1,r1,q1⟩=>?_)
  obtain ⟨c,rfl,q1⟩:=q1
  cases r1
  refine wpAny_truthy_bool ?_
  cases c with
  | true=>exact hb pins s1 σ H1 Q I1 q1
  | false=>exact ⟨.bl false,H1,I1,rfl,q1⟩
theorem pe_not (ha:PE X a ta):PE X (.UnaryOp .Not a pos) (tNotV ta):=by
  intro pins s σ H Q I h
  refine UnaryOp_ (thn (ha pins s σ H _ I h) fun v s1 ⟨x,H1,I1,r1,q1⟩=>?_)
  obtain ⟨c,rfl,q1⟩:=q1
  cases r1
  exact not_of (wpAny_truthy_bool ⟨.bl (!c),H1,I1,rfl,q1⟩)
def tIf (t:TT) (ta tb:TE):TE:=fun σ H Q=>t σ H fun c H1=>if c = true then ta σ H1 Q else tb σ H1 Q
theorem pe_ifExp {c:Expr} (hc:PT X c tA) (ha:PE X a ta) (hb:PE X b tb):PE X (.IfExp c a b pos) (tIf tA ta tb):=by
  intro pins s σ H Q I h
  refine wpAny_IfExp (thn (hc pins s σ H _ I h) fun d s1 ⟨H1,I1,q1⟩=>?_)
  cases d with
  | true=>exact ha pins s1 σ H1 Q I1 q1
  | false=>exact hb pins s1 σ H1 Q I1 q1
end
end L2
namespace L2
open PySem PySem.Spec PyProof.Rows
def SqL (K:PySem.W.Frag) (H:Hp) (a:Addr) (xs:List V):Prop :=
  Rd H a (.lst xs) ∨
    ∃ (o:Obj) (its:Array Value) (n:Nat),K.lookup a = some o∧o.cls = .type "list" ∧ o.dict = none∧o.data = .seq its n∧its.size≤sizeLine∧Vals xs its.toList
def SqT (K:PySem.W.Frag) (H:Hp) (a:Addr) (xs:List V):Prop :=
  Rd H a (.tup xs) ∨
    ∃ (o:Obj) (its:Array Value) (n:Nat),K.lookup a = some o∧o.cls = .type "tuple" ∧ o.data = .seq its n∧its.size≤sizeLine∧Vals xs its.toList
def absV:Value→Option V
  | .none=>some .non
  | .bool b=>some (.bl b)
  | .int i _=>some (.int i)
  | .str x _=>some (.str x)
  | .bytes b _=>some (.byt b)
  | .float b _=>some (.flt b)
  | .ref a=>some (.ref a)
  | .type n=>some (.ty n)
  | _=>none
theorem RelV.abs {x:V} {u:Value} (r:RelV x u):absV u = some x:=by
  cases x with
  | non=>cases r; rfl
  | bl _=>cases r; rfl
  | int _=>obtain ⟨t,rfl⟩:=r; rfl
  | str _=>obtain ⟨t,rfl⟩:=r; rfl
  | byt _=>obtain ⟨t,rfl⟩:=r; rfl
  | flt _=>obtain ⟨t,rfl⟩:=r; rfl
  | ref _=>cases r; rfl
  | ty _=>cases r; rfl
theorem RelV.inj {x y:V} {u:Value} (r:RelV x u) (q:RelV y u):x = y:=Option.some.inj (r.abs.symm.trans q.abs)
theorem Vals.inj:∀ {xs ys:List V} {us:List Value},Vals xs us→Vals ys us→xs = ys
  | _,_,_,.nil,.nil=>rfl
  | _,_,_,.cons r t,.cons r' t'=>by rw [r.inj r',Vals.inj t t']
section
variable {X:Cx} {pins:List (Addr × Obj)} {σ:St} {H:Hp} {s:Shared} {a:Addr} {xs ys:List V}
theorem SqL.of {K:PySem.W.Frag} (h:H a = some (.lst xs)):SqL K H a xs:=.inl (.inl h)
theorem SqT.of {K:PySem.W.Frag} (h:H a = some (.tup xs)):SqT K H a xs:=.inl (.inl h)
theorem Inv.list (I:Inv X pins σ H s) (h:SqL X.K H a xs):∃ its:List Value,Vals xs its∧PlainL s.heap a its.toArray∧xs.length≤sizeLine:=by
  rcases h with h | ⟨o,its,n,hk,hc,hd,hs,hz,r⟩
  · obtain ⟨z,its,n,r,e⟩:=h.ok I.hok
    exact ⟨its,r,⟨_,n,e,rfl,rfl,rfl⟩,z⟩
  · refine ⟨its.toList,r,⟨o,n,I.kIn a o hk,hc,hd,by simpa using hs⟩,?_⟩
    have e:=r.length
    simp only [Array.length_toList] at e
    omega
theorem Inv.tuple (I:Inv X pins σ H s) (h:SqT X.K H a xs):∃ its:List Value,Vals xs its∧IsTup s.heap a its.toArray∧xs.length≤sizeLine:=by
  rcases h with h | ⟨o,its,n,hk,hc,hs,hz,r⟩
  · obtain ⟨z,its,r,p⟩:=h.ok I.hok
    exact ⟨its,r,p,z⟩
  · refine ⟨its.toList,r,⟨o,I.kIn a o hk,hc,n,by simpa using hs⟩,?_⟩
    have e:=r.length
    simp only [Array.length_toList] at e
    omega
theorem Inv.list_inj (I:Inv X pins σ H s) (h:SqL X.K H a xs) (h':SqL X.K H a ys):xs = ys:=by
  obtain ⟨its,r,⟨o,n,e,_,_,d⟩,_⟩:=I.list h
  obtain ⟨its',r',⟨o',n',e',_,_,d'⟩,_⟩:=I.list h'
  rw [e] at e'; cases e'
  rw [d] at d'
  injection d' with d1 _
  have:its = its':=by simpa using congrArg Array.toList d1
  subst this
  exact r.inj r'
theorem Inv.tuple_inj (I:Inv X pins σ H s) (h:SqT X.K H a xs) (h':SqT X.K H a ys):xs = ys:=by
  obtain ⟨its,r,⟨o,e,_,n,d⟩,_⟩:=I.tuple h
  obtain ⟨its',r',⟨o',e',_,n',d'⟩,_⟩:=I.tuple h'
  rw [e] at e'; cases e'
  rw [d] at d'
  injection d' with d1 _
  have:its = its':=by simpa using congrArg Array.toList d1
  subst this
  exact r.inj r'
end
abbrev Cx.wish (X:Cx) (E:Value→Shared→Prop):Cx:={ X with xe:=E }
abbrev Cx.nox (X:Cx):Cx:=X.wish fun _ _=>False
theorem Cx.Ok.wish {X:Cx} (ok:X.Ok) (E:Value→Shared→Prop):(X.wish E).Ok :=
  ⟨ok.mod,ok.kind,ok.glob,ok.blt,ok.above,ok.inj,ok.has,ok.cab,ok.hd,ok.frames,ok.stk,ok.exf,ok.bs,ok.bsz,ok.noex,ok.exfs,ok.funs,ok.frf⟩
theorem Cx.Ok.unwish {X:Cx} {E:Value→Shared→Prop} (ok:(X.wish E).Ok):X.Ok :=
  ⟨ok.mod,ok.kind,ok.glob,ok.blt,ok.above,ok.inj,ok.has,ok.cab,ok.hd,ok.frames,ok.stk,ok.exf,ok.bs,ok.bsz,ok.noex,ok.exfs,ok.funs,ok.frf⟩
section
variable {X:Cx} {pins:List (Addr × Obj)} {σ:St} {H:Hp} {s:Shared} {E:Value→Shared→Prop}
theorem Inv.wish (I:Inv X pins σ H s) (E:Value→Shared→Prop):Inv (X.wish E) pins σ H s:=⟨I.ok.wish E,I.os,I.bare,I.base,I.loc,I.cell,I.free,I.freeC,I.pin,I.hok,I.len⟩
theorem Inv.unwish (I:Inv (X.wish E) pins σ H s):Inv X pins σ H s:=⟨I.ok.unwish,I.os,I.bare,I.base,I.loc,I.cell,I.free,I.freeC,I.pin,I.hok,I.len⟩
theorem SP.unwish {D:Ends} {f:Flow} {s':Shared} (h:SP (X.wish E) pins D f s'):SP X pins D f s':=by
  cases f with
  | next=>obtain ⟨σ',H',I,q⟩:=h; exact ⟨σ',H',I.unwish,q⟩
  | brk=>obtain ⟨σ',H',I,q⟩:=h; exact ⟨σ',H',I.unwish,q⟩
  | cont=>obtain ⟨σ',H',I,q⟩:=h; exact ⟨σ',H',I.unwish,q⟩
  | ret u=>obtain ⟨v,σ',H',I,r,q⟩:=h; exact ⟨v,σ',H',I.unwish,r,q⟩
theorem PSs.nox {st:List Stmt} {t:TS} (h:PSs X.nox st t):PSs X st t:=fun pins s σ H D I hw =>
  wpAny_mono (h pins s σ H D (I.wish _) hw) (fun _ _ q=>q.unwish) fun _ _ z=>False.elim z
end
section
variable {X:Cx} {st:Stmt} {rest:List Stmt} {t u:TS} {e:Expr} {te:TE} {pos:Pos}
def tNext:TS:=fun D σ H=>D.nx σ H
def tSeq (t u:TS):TS:=fun D σ H=>t { D with nx:=u D } σ H
theorem pss_nil:PSs X [] tNext:=fun _ _ σ H _ I h=>wpAny_execs_nil ⟨σ,H,I,h⟩
theorem pss_cons (h1:PS X st t) (h2:PSs X rest u):PSs X (st :: rest) (tSeq t u):=by
  intro pins s σ H D I h
  refine wpAny_execs_cons (thn (h1 pins s σ H { D with nx:=u D } I h) fun f s1 q=>?_)
  cases f with
  | next =>
    obtain ⟨σ',H',I',q⟩:=q
    exact h2 pins s1 σ' H' D I' q
  | ret v=>exact q
  | brk=>exact q
  | cont=>exact q
theorem pss_one (h1:PS X st t):PSs X [st] t:=by
  intro pins s σ H D I h
  refine wpAny_execs_cons (thn (h1 pins s σ H D I h) fun f s1 q=>?_)
  cases f with
  | next=>exact wpAny_execs_nil q
  | ret v=>exact q
  | brk=>exact q
  | cont=>exact q
theorem Inv.quiet {pins:List (Addr × Obj)} {σ:St} {H:Hp} {s:Shared} (I:Inv X pins σ H s):interactive X.env = false:=by simp [interactive,I.ok.kind]
def tDrop (te:TE):TS:=fun D σ H=>te σ H fun _ H1=>D.nx σ H1
theorem ps_expr (he:PE X e te) (hs:swapsWith e none pos.line X.env = pure false:=by rfl):PS X (.Expr e pos) (tDrop te):=by
  intro pins s σ H D I h
  exact wpAny_Expr_any (thn (he pins s σ H _ I h) fun v s1 ⟨x,H1,I1,r1,q1⟩=>⟨σ,H1,I1,q1⟩) I.quiet hs
def tRet (te:TE):TS:=fun D σ H=>te σ H D.rt
theorem ps_ret (he:PE X e te):PS X (.Return (some e) pos) (tRet te):=by
  intro pins s σ H D I h
  exact wpAny_Return_some (thn (he pins s σ H _ I h) fun v s1 ⟨x,H1,I1,r1,q1⟩=>⟨x,σ,H1,I1,r1,q1⟩)
def tIfS (c:TT) (t u:TS):TS:=fun D σ H=>c σ H fun b H1=>if b = true then t D σ H1 else u D σ H1
theorem ps_if {c:Expr} {a b:List Stmt} {tc:TT} (hc:PT X c tc) (ha:PSs X a t) (hb:PSs X b u):PS X (.If c a b pos) (tIfS tc t u):=by
  intro pins s σ H D I h
  refine wpAny_If (thn (hc pins s σ H _ I h) fun d s1 ⟨H1,I1,q1⟩=>?_)
  cases d with
  | true=>exact ha pins s1 σ H1 D I1 q1
  | false=>exact hb pins s1 σ H1 D I1 q1
def tNever:TS:=fun _ _ _=>False
theorem ps_never:PS X st tNever:=fun _ _ _ _ _ _ h=>h.elim
end
abbrev TG:=V→St→Hp→(St→Hp→Prop)→Prop
abbrev TGs:=List V→St→Hp→(St→Hp→Prop)→Prop
def PG (X:Cx) (target:Expr) (t:TG):Prop :=
  ∀ (pins:List (Addr × Obj)) (s:Shared) (σ:St) (H:Hp) (v:V) (u:Value) (Q:St→Hp→Prop),Inv X pins σ H s→RelV v u→t v σ H Q →
    wpAny (model X.prog X.w) X.A (assign target X.env u) (fun _ s'=>∃ σ' H',Inv X pins σ' H' s'∧Q σ' H') X.xe s
def PGs (X:Cx) (ts:List Expr) (t:TGs):Prop :=
  ∀ (pins:List (Addr × Obj)) (s:Shared) (σ:St) (H:Hp) (vs:List V) (us:List Value) (Q:St→Hp→Prop),Inv X pins σ H s→Vals vs us→t vs σ H Q →
    wpAny (model X.prog X.w) X.A (assignInOrder ((assignEach ts X.env).map (·.2)) us) (fun _ s'=>∃ σ' H',Inv X pins σ' H' s'∧Q σ' H') X.xe s
section
variable {X:Cx} {pos:Pos}
def gName (i:Nat):TG:=fun v σ H Q=>Q (σ.set i (some v)) H
theorem pg_name {i:Nat} {x:Str} (hN:X.N.Nodup) (hi:X.N[i]? = some x) (hx:Loc X.env.scope x) (hf:X.fn x = true∨X.env.scope.names.lookup x = some .local:=by first | exact .inl rfl | exact .inr rfl | assumption):PG X (.Name x pos) (gName i):=by
  intro pins s σ H v u Q I r h
  exact wpAny_assign_Name (store_ok I hN hi hx r (fun s' I'=>⟨_,H,I',h⟩) hf)
def gNil:TGs:=fun vs σ H Q=>vs = []∧Q σ H
def gCons (t:TG) (u:TGs):TGs:=fun vs σ H Q=>∃ v r,vs = v :: r∧t v σ H fun σ' H'=>u r σ' H' Q
theorem pgs_nil:PGs X [] gNil:=by
  intro pins s σ H vs us Q I r h
  obtain ⟨e,h⟩:=h
  subst e
  cases r
  exact assignInOrder_nil ⟨σ,H,I,h⟩
theorem pgs_cons {e:Expr} {es:List Expr} {t:TG} {u:TGs} (h1:PG X e t) (h2:PGs X es u)
    (hs:(assignEach (e :: es) X.env).map (·.2) = assign e X.env :: (assignEach es X.env).map (·.2):=by rfl):PGs X (e :: es) (gCons t u):=by
  intro pins s σ H vs us Q I r h
  obtain ⟨v,vr,e1,h⟩:=h
  subst e1
  cases r with
  | cons r rr =>
    rw [hs]
    refine assignInOrder_cons (thn (h1 pins s σ H _ _ _ I r h) fun _ s1 ⟨σ1,H1,I1,q1⟩=>?_)
    exact h2 pins s1 σ1 H1 _ _ Q I1 rr q1
def gTup (K:PySem.W.Frag) (n:Nat) (t:TGs):TG:=fun v σ H Q=>∃ a xs,v = .ref a∧SqT K H a xs∧xs.length = n∧t xs σ H Q
theorem pg_tup {es:List Expr} {k:Nat} {t:TGs} {n:Nat} (hc:X.calm = true) (h:PGs X es t)
    (hn:(assignEach es X.env).length = n:=by rfl) (hst:(assignEach es X.env).findIdx? (·.1) = none:=by rfl):PG X (.Tuple es k pos) (gTup X.K n t):=by
  intro pins s σ H v u Q I r hw
  obtain ⟨a,xs,e1,hq,hl,hw⟩:=hw
  subst e1
  cases r
  obtain ⟨its,rv,ht,hz⟩:=I.tuple hq
  refine assign_Tuple_tuple (I.ok.hd hc) ht (by simp [hn,← hl,rv.length]) hst fun h' hx=>?_
  have I1:Inv X pins σ H { s with heap:=h' }:=I.kept (t':=s.toks) fun b o e=>hx b o (Nat.ne_of_lt (Heap.lt_size e)) e
  exact h pins _ σ H xs _ Q I1 (by simpa using rv) hw
def tAsg (te:TE) (g:TG):TS:=fun D σ H=>te σ H fun x H1=>g x σ H1 D.nx
theorem ps_set {i:Nat} {x:Str} {e:Expr} {te:TE} {pos':Pos} (hN:X.N.Nodup) (hi:X.N[i]? = some x) (hx:Loc X.env.scope x) (he:PE X e te) (hs:swapsWith e (some (.Name x pos')) pos.line X.env = pure false:=by rfl) (hf:X.fn x = true∨X.env.scope.names.lookup x = some .local:=by first | exact .inl rfl | exact .inr rfl | assumption) :
    PS X (.Assign [.Name x pos'] e pos) (tAsg te (gName i)):=by
  intro pins s σ H D I h
  refine wpAny_Assign_Name (thn (he pins s σ H _ I h) fun v s1 ⟨y,H1,I1,r1,q1⟩=>?_) hs
  exact store_ok I1 hN hi hx r1 (fun s2 I2=>⟨_,H1,I2,q1⟩) hf
end
section
variable {X:Cx} {pos:Pos}
def tWhile (c:TT) (tb:TS):TS:=fun D σ H=>∃ W:Nat→St→Hp→Prop,(∃ m,W m σ H)∧∀ m σ H,W m σ H →
  c σ H fun b H1=>if b = true then ∃ N:St→Hp→Prop,(∀ σ' H',N σ' H'→∃ m',m' < m∧W m' σ' H')∧tb { D with nx:=N,ct:=N,bk:=D.nx } σ H1 else D.nx σ H1
theorem ps_while {c:Expr} {body:List Stmt} {tc:TT} {tb:TS} (hp:PassesOwn (model X.prog X.w) X.A X.env X.xe) (hc:PT X c tc) (hb:PSs X body tb):PS X (.While c body [] pos) (tWhile tc tb):=by
  intro pins s σ H D I h
  obtain ⟨W,⟨m0,w0⟩,turn⟩:=h
  refine wpAny_While (codeAny_whileLoop (fun n s'=>∃ σ' H',Inv X pins σ' H' s'∧W n σ' H') ?_ m0 ⟨σ,H,I,w0⟩)
  rintro n s1 ⟨σ1,H1,I1,w1⟩
  refine wpAny_passesOwn hp (thn (hc pins s1 σ1 H1 _ I1 (turn n σ1 H1 w1)) fun b s2 ⟨H2,I2,q2⟩=>?_)
  cases b with
  | true =>
    obtain ⟨N,hN,q2⟩:=q2
    rw [if_pos rfl]
    refine wpAny_passesOwn hp (thn (hb pins s2 σ1 H2 _ I2 q2) fun f s3 q3=>?_)
    cases f with
    | next =>
      obtain ⟨σ3,H3,I3,n3⟩:=q3
      obtain ⟨m',hm,w3⟩:=hN σ3 H3 n3
      exact ⟨m',hm,σ3,H3,I3,w3⟩
    | cont =>
      obtain ⟨σ3,H3,I3,n3⟩:=q3
      obtain ⟨m',hm,w3⟩:=hN σ3 H3 n3
      exact ⟨m',hm,σ3,H3,I3,w3⟩
    | brk=>exact q3
    | ret v=>exact q3
  | false =>
    rw [if_neg Bool.false_ne_true]
    exact wpAny_execs_nil ⟨σ1,H2,I2,q2⟩
end
structure It where
  go:Nat→Hp→Prop
  yld:Nat→Hp→V→Hp→Prop
  stop:Nat→Hp→Prop
def FpOk (X:Cx) (pins:List (Addr × Obj)) (H:Hp) (b:Addr):Prop :=
  H b = none∧b≠X.env.locals∧b ∉ X.fs∧(b∈X.ex∨X.s₀.heap.objs.size≤b)∧(∀ x c,X.env.cells.lookup x = some c→c≠b)∧∀ p∈X.pn ++ pins,p.1≠b
theorem Inv.fpOk {X:Cx} {pins:List (Addr × Obj)} {σ:St} {H H':Hp} {s:Shared} {b:Addr} (I:Inv X pins σ H s) (hb:s.heap.objs.size≤b) (hn:H' b = none):FpOk X pins H' b:=by
  refine ⟨hn,Nat.ne_of_gt (Nat.lt_of_lt_of_le I.lt hb),I.nofs hb,.inr (Nat.le_trans I.sz hb),fun x c e z=>?_,fun p hp z=>?_⟩
  · obtain ⟨v,q⟩:=I.cell x c e
    exact absurd (Nat.lt_of_lt_of_le q.lt (by rw [z]; exact hb)) (Nat.lt_irrefl _)
  · exact absurd (Nat.lt_of_lt_of_le (Heap.lt_size (I.pin p hp).1) (by rw [z]; exact hb)) (Nat.lt_irrefl _)
structure Turn (P:Program) (w:World) (K:PySem.W.Frag) (tg:Expr) (J:It) (fp:List Addr) (it:Addr) (tn:Nat→Heap→Prop):Prop where
  mem:it∈fp
  obj:∀ i h,tn i h→∀ b∈fp,∃ o,h.get? b = some o∧∀ v,o.data≠.cell v
  keep:∀ i h h',tn i h→(∀ b∈fp,∀ o,h.get? b = some o→h'.get? b = some o)→tn i h'
  item:∀ (X:Cx),X.prog = P→X.w = w→X.K = K→X.calm = true→∀ (i:Nat) (pins:List (Addr × Obj)) (s:Shared) (σ:St) (H:Hp) (E:Value→Shared→Prop),Inv X pins σ H s→(∀ b∈fp,FpOk X pins H b)→tn i s.heap→J.go i H →
    wpAny (model P w) X.A (pyNext (.ref it)) (fun r s1=>∃ u,r = some u ∧
      wpAny (model P w) X.A (letOwnedTupleGo tg (.ref it) u) (fun _ s2=>∃ x H',Inv X pins σ H' s2∧RelV x u∧J.yld i H x H'∧tn (i + 1) s2.heap∧∀ b∈fp,H' b = none) E s1) E s
  done:∀ (X:Cx),X.prog = P→X.w = w→X.K = K→X.calm = true→∀ (i:Nat) (pins:List (Addr × Obj)) (s:Shared) (σ:St) (H:Hp) (E:Value→Shared→Prop),Inv X pins σ H s→(∀ b∈fp,FpOk X pins H b)→tn i s.heap→J.stop i H →
    wpAny (model P w) X.A (pyNext (.ref it)) (fun r s1=>r = none∧Inv X pins σ H s1) E s
  self:∀ (A:Around) (i:Nat) (s:Shared) (Q:Value→Shared→Prop) (E:Value→Shared→Prop),tn i s.heap→Q (.ref it) s→wpAny (model P w) A (pyIter (.ref it)) Q E s
abbrev TI:=St→Hp→(It→Hp→Prop)→Prop
def PIE (X:Cx) (pins:List (Addr × Obj)) (σ:St) (tg:Expr) (R:It→Hp→Prop) (itv:Value) (s2:Shared):Prop :=
  ∃ (it:Addr) (fp:List Addr) (tn:Nat→Heap→Prop) (J:It) (H':Hp),itv = .ref it∧Inv X pins σ H' s2∧Turn X.prog X.w X.K tg J fp it tn∧tn 0 s2.heap∧(∀ b∈fp,FpOk X pins H' b)∧R J H'
def PI (X:Cx) (tg iter:Expr) (wi:TI):Prop :=
  ∀ (pins:List (Addr × Obj)) (s:Shared) (σ:St) (H:Hp) (R:It→Hp→Prop),Inv X pins σ H s→wi σ H R →
    wpAny (model X.prog X.w) X.A (eval iter X.env) (fun v s1=>wpAny (model X.prog X.w) X.A (pyIter v) (PIE X pins σ tg R) X.xe s1) X.xe s
theorem go_of {M:Model} {A:Around} {E:Value→Shared→Prop} {s:Shared} {tg:Expr} {it:Addr} {u:Value} {o:Obj} {n:String} {vs:Array Value} {Q:Unit→Shared→Prop} (ho:s.heap.get? it = some o) (hc:o.cls = .type n) (hd:o.data = .fields vs)
    (hn:["enumerate", "zip", "dict_itemiterator", "dict_reverseitemiterator", "odict_iterator", "itertools.zip_longest", "itertools.pairwise"].contains n = false) (hQ:Q () s):wpAny M A (letOwnedTupleGo tg (.ref it) u) Q E s:=by
  unfold letOwnedTupleGo
  cases tg <;> first
    | exact wpAny_pure hQ
    | (cases u <;> first
        | exact wpAny_pure hQ
        | (refine wpAny_bind (wpAny_load ho ?_)
           rw [hc,hd]
           show wpAny M A (if (["enumerate", "zip", "dict_itemiterator", "dict_reverseitemiterator", "odict_iterator", "itertools.zip_longest", "itertools.pairwise"].contains n && vs[0]? == some (rawInt _)) = true then _ else _) Q E s
           rw [if_neg (by intro h; rw [hn,Bool.false_and] at h; cases h)]
           exact wpAny_pure hQ))
def Itl (K:PySem.W.Frag) (a:Addr):It :=
  ⟨fun i H=>∃ xs x,SqL K H a xs∧xs[i]? = some x,fun i H x H'=>H' = H∧∀ xs,SqL K H a xs→xs[i]? = some x,fun i H=>∃ xs,SqL K H a xs∧xs.length≤i⟩
def Itt (K:PySem.W.Frag) (a:Addr):It :=
  ⟨fun i H=>∃ xs x,SqT K H a xs∧xs[i]? = some x,fun i H x H'=>H' = H∧∀ xs,SqT K H a xs→xs[i]? = some x,fun i H=>∃ xs,SqT K H a xs∧xs.length≤i⟩
def Itr (lo:Int) (n:Nat):It:=⟨fun i _=>i < n,fun i H x H'=>H' = H∧x = .int (lo + i),fun i _=>n≤i⟩
theorem turn_list {P:Program} {w:World} {K:PySem.W.Frag} {tg:Expr} (a it:Addr):Turn P w K tg (Itl K a) [it] it (fun i h=>h.IsListIter it a i) where
  mem:=by simp
  obj:=fun i h st b hb=>by
    have e:b = it:=by simpa using hb
    subst e
    obtain ⟨o,e,c,d⟩:=st
    exact ⟨o,e,fun v z=>by rw [d] at z; cases z⟩
  keep:=fun i h h' st k=>st.at fun o e=>k it (by simp) o e
  item:=by
    intro X hP hw hK hc i pins s σ H E I hf st hg
    subst hP hw hK
    obtain ⟨xs,x,hq,hx⟩:=hg
    obtain ⟨its,rv,p,hz⟩:=I.list hq
    obtain ⟨u,hu,ru⟩:=rv.get hx
    obtain ⟨f0,f1,f2,f3,f4,f5⟩:=hf it (by simp)
    refine wpAny_pyNext_list_item st p.isList (x:=u) (by simpa using hu) fun h' st' sb=>?_
    have I1:Inv X pins σ H { s with heap:=h' }:=I.turned (t':=s.toks) (fun b o hb e=>(sb.2 b hb).trans e) f0 f1 f3 f4 f5
    obtain ⟨o,e,c,d⟩:=id st'
    exact ⟨u,rfl,go_of (s:={ s with heap:=h' }) e c d (by decide) ⟨x,H,I1,ru,⟨rfl,fun ys hy=>by rw [I.list_inj hy hq]; exact hx⟩,st',fun b hb=>(hf b hb).1⟩⟩
  done:=by
    intro X hP hw hK hc i pins s σ H E I hf st hg
    subst hP hw hK
    obtain ⟨xs,hq,hx⟩:=hg
    obtain ⟨its,rv,p,hz⟩:=I.list hq
    obtain ⟨f0,f1,f2,f3,f4,f5⟩:=hf it (by simp)
    have hl:=rv.length
    exact wpAny_pyNext_list_end (I.ok.hd hc) st p.isList (by simp; omega) fun h' eb=>⟨rfl,I.turned (t':=s.toks) (fun b o hb e=>eb b o hb e) f0 f1 f3 f4 f5⟩
  self:=fun _ _ _ _ _ st h=>wpAny_pyIter_listiter st h
theorem turn_tuple {P:Program} {w:World} {K:PySem.W.Frag} {tg:Expr} (a it:Addr):Turn P w K tg (Itt K a) [it] it (fun i h=>h.IsTupleIter it a i) where
  mem:=by simp
  obj:=fun i h st b hb=>by
    have e:b = it:=by simpa using hb
    subst e
    obtain ⟨o,e,c,d⟩:=st
    exact ⟨o,e,fun v z=>by rw [d] at z; cases z⟩
  keep:=fun i h h' st k=>st.at fun o e=>k it (by simp) o e
  item:=by
    intro X hP hw hK hc i pins s σ H E I hf st hg
    subst hP hw hK
    obtain ⟨xs,x,hq,hx⟩:=hg
    obtain ⟨its,rv,p,hz⟩:=I.tuple hq
    obtain ⟨u,hu,ru⟩:=rv.get hx
    obtain ⟨f0,f1,f2,f3,f4,f5⟩:=hf it (by simp)
    refine wpAny_pyNext_tuple_item st (show s.heap.IsTuple a its.toArray from p) (x:=u) (by simpa using hu) fun h' st' sb=>?_
    have I1:Inv X pins σ H { s with heap:=h' }:=I.turned (t':=s.toks) (fun b o hb e=>(sb.2 b hb).trans e) f0 f1 f3 f4 f5
    obtain ⟨o,e,c,d⟩:=id st'
    exact ⟨u,rfl,go_of (s:={ s with heap:=h' }) e c d (by decide) ⟨x,H,I1,ru,⟨rfl,fun ys hy=>by rw [I.tuple_inj hy hq]; exact hx⟩,st',fun b hb=>(hf b hb).1⟩⟩
  done:=by
    intro X hP hw hK hc i pins s σ H E I hf st hg
    subst hP hw hK
    obtain ⟨xs,hq,hx⟩:=hg
    obtain ⟨its,rv,p,hz⟩:=I.tuple hq
    obtain ⟨f0,f1,f2,f3,f4,f5⟩:=hf it (by simp)
    have hl:=rv.length
    exact wpAny_pyNext_tuple_end (I.ok.hd hc) st (show s.heap.IsTuple a its.toArray from p) (by simp; omega) fun h' eb=>⟨rfl,I.turned (t':=s.toks) (fun b o hb e=>eb b o hb e) f0 f1 f3 f4 f5⟩
  self:=fun _ _ _ _ _ st h=>wpAny_pyIter_tupleiter st h
theorem turn_range {P:Program} {w:World} {K:PySem.W.Frag} {tg:Expr} (it:Addr) (lo:Int) (n:Nat):Turn P w K tg (Itr lo n) [it] it (fun i h=>IsRangeIter h it (lo + (i:Nat) * 1) ((n:Int) - (i:Nat)) 1) where
  mem:=by simp
  obj:=fun i h st b hb=>by
    have e:b = it:=by simpa using hb
    subst e
    exact ⟨_,st,fun v z=>by
      have z':Data.fields _ = Data.cell v:=z
      cases z'⟩
  keep:=fun i h h' st k=>k it (by simp) _ st
  item:=by
    intro X hP hw hK hc i pins s σ H E I hf st hg
    subst hP hw hK
    obtain ⟨f0,f1,f2,f3,f4,f5⟩:=hf it (by simp)
    have W:=Walks.range (prog:=X.prog) (w:=X.w) (I.ok.hd hc) it lo 1 n
    refine W.item i s _ _ hg st fun v h' tk hv st' kk=>?_
    obtain ⟨t,rfl⟩:=hv
    have I1:Inv X pins σ H { s with heap:=h',toks:=tk }:=I.turned (fun b o hb e=>kk b o (by simpa using hb) e) f0 f1 f3 f4 f5
    refine ⟨_,rfl,go_of (s:={ s with heap:=h',toks:=tk }) (n := "range_iterator") st' rfl rfl (by decide) ⟨.int (lo + i),H,I1,⟨t,?_⟩,⟨rfl,rfl⟩,st',fun b hb=>(hf b hb).1⟩⟩
    rw [Int.mul_one]
  done:=by
    intro X hP hw hK hc i pins s σ H E I hf st hg
    subst hP hw hK
    obtain ⟨f0,f1,f2,f3,f4,f5⟩:=hf it (by simp)
    exact wpAny_pyNext_range_end (I.ok.hd hc) st (by have:n≤i:=hg; omega) fun h' eb=>⟨rfl,I.turned (t':=s.toks) (fun b o hb e=>eb b o hb e) f0 f1 f3 f4 f5⟩
  self:=fun _ _ _ _ _ st h=>wpAny_pyIter_rangeiter st h
end L2
namespace L2
open PySem PySem.Spec PyProof.Rows
section
variable {X:Cx} {tg:Expr}
def iList (K:PySem.W.Frag) (tl:TE):TI:=fun σ H R=>tl σ H fun x H1=>∃ a,x = .ref a∧(∃ xs,SqL K H1 a xs)∧R (Itl K a) H1
def iTup (K:PySem.W.Frag) (tl:TE):TI:=fun σ H R=>tl σ H fun x H1=>∃ a,x = .ref a∧(∃ xs,SqT K H1 a xs)∧R (Itt K a) H1
theorem pi_list {l:Expr} {tl:TE} (hl:PE X l tl):PI X tg l (iList X.K tl):=by
  intro pins s σ H R I h
  refine thn (hl pins s σ H _ I h) fun v s1 ⟨x,H1,I1,r1,q1⟩=>?_
  obtain ⟨a,e,⟨xs,hq⟩,q⟩:=q1
  subst e
  cases r1
  obtain ⟨its,rv,p,hz⟩:=I1.list hq
  refine wpAny_pyIter_list p.isList ?_
  refine ⟨s1.heap.objs.size,[s1.heap.objs.size],_,_,H1,rfl,I1.kept (t':=s1.toks) fun b o e=>Heap.get?_push_of_some _ e,turn_list a _,⟨_,Heap.get?_push_size _ rfl,rfl,rfl⟩,fun b hb=>?_,q⟩
  have e:b = s1.heap.objs.size:=by simpa using hb
  subst e
  exact I1.fpOk (Nat.le_refl _) (I1.hok.fresh (Nat.le_refl _))
theorem pi_tup {l:Expr} {tl:TE} (hl:PE X l tl):PI X tg l (iTup X.K tl):=by
  intro pins s σ H R I h
  refine thn (hl pins s σ H _ I h) fun v s1 ⟨x,H1,I1,r1,q1⟩=>?_
  obtain ⟨a,e,⟨xs,hq⟩,q⟩:=q1
  subst e
  cases r1
  obtain ⟨its,rv,p,hz⟩:=I1.tuple hq
  refine wpAny_pyIter_tuple (show s1.heap.IsTuple a its.toArray from p) ?_
  refine ⟨s1.heap.objs.size,[s1.heap.objs.size],_,_,H1,rfl,I1.kept (t':=s1.toks) fun b o e=>Heap.get?_push_of_some _ e,turn_tuple a _,⟨_,Heap.get?_push_size _ rfl,rfl,rfl⟩,fun b hb=>?_,q⟩
  have e:b = s1.heap.objs.size:=by simpa using hb
  subst e
  exact I1.fpOk (Nat.le_refl _) (I1.hok.fresh (Nat.le_refl _))
theorem range_it {pins:List (Addr × Obj)} {σ:St} {H:Hp} {s:Shared} {R:It→Hp→Prop} {E:Value→Shared→Prop} {lo hi:Int} {t u v:Tok} {tk:Nat} (I:Inv X pins σ H s) (h1:-(2 ^ 62)≤lo) (h2:lo < 2 ^ 62) (h3:-(2 ^ 62)≤hi) (h4:hi < 2 ^ 62)
    (q:R (Itr lo (hi - lo).toNat) H):wpAny (model X.prog X.w) X.A (pyIter (.ref s.heap.objs.size)) (PIE X pins σ tg R) E { s with heap:=s.heap.push { cls:=.type "range",data:=.fields #[.int lo t,.int hi u,.int 1 v] },toks:=tk }:=by
  refine wpAny_pyIter_range (IsRange.new ..) (small_one h1 h2 h3 h4) ?_
  have I1:Inv X pins σ H { s with heap:=s.heap.push { cls:=.type "range",data:=.fields #[.int lo t,.int hi u,.int 1 v] },toks:=tk }:=I.kept fun b o e=>Heap.get?_push_of_some _ e
  refine ⟨(s.heap.push { cls:=.type "range",data:=.fields #[.int lo t,.int hi u,.int 1 v] }).objs.size,[(s.heap.push { cls:=.type "range",data:=.fields #[.int lo t,.int hi u,.int 1 v] }).objs.size],_,_,H,rfl,
    I1.kept (t':=tk) fun b o e=>Heap.get?_push_of_some _ e,turn_range _ lo (hi - lo).toNat,?_,fun b hb=>?_,q⟩
  · have e1:lo + ((0:Nat):Int) * 1 = lo:=by simp
    have e2:(((hi - lo).toNat:Nat):Int) - ((0:Nat):Int) = Builtin.Range.rangeSize lo hi 1:=by rw [rangeSize_one]; split <;> omega
    show IsRangeIter _ _ (lo + ((0:Nat):Int) * 1) ((((hi - lo).toNat:Nat):Int) - ((0:Nat):Int)) 1
    rw [e1,e2]
    exact Heap.get?_push_size _ rfl
  · have e:b = (s.heap.push { cls:=.type "range",data:=.fields #[.int lo t,.int hi u,.int 1 v] }).objs.size:=by simpa using hb
    subst e
    exact I1.fpOk (Nat.le_refl _) (I1.hok.fresh (Nat.le_refl _))
def iRng1 (ta:TA):TI:=fun σ H R=>ta σ H fun vs H1=>∃ j:Int,vs = [.int j]∧-(2 ^ 62)≤j∧j < 2 ^ 62∧R (Itr 0 j.toNat) H1
def iRng2 (ta:TA):TI:=fun σ H R=>ta σ H fun vs H1=>∃ i j:Int,vs = [.int i,.int j]∧(-(2 ^ 62)≤i∧i < 2 ^ 62∧-(2 ^ 62)≤j∧j < 2 ^ 62)∧R (Itr i (j - i).toNat) H1
theorem pi_range1 {a:Expr} {ta:TA} {p pos:Pos} (hg:Gl X "range") (hm:X.mg "range" = none) (ha:PA X [a] ta) (hs:starEach [a] X.env = [(false,eval a X.env)]:=by rfl):PI X tg (.Call (.Name "range" p) [a] [] pos) (iRng1 ta):=by
  intro pins s σ H R I h
  refine Call_ (ld_blt I hg hm boot_range (PyProof.Rows.callWith_type1 (thn (ha pos pins s σ H _ I h) fun us s1 ⟨vs,H1,I1,r1,q1⟩=>?_) hs rfl))
  obtain ⟨j,e,q1,q2,q⟩:=q1
  subst e
  cases r1 with
  | cons r rr =>
    cases rr
    obtain ⟨t,rfl⟩:=r
    exact call_range_1 (range_it I1 (by omega) (by omega) q1 q2 (by simpa using q))
theorem pi_range2 {a b:Expr} {ta:TA} {p pos:Pos} (hg:Gl X "range") (hm:X.mg "range" = none) (ha:PA X [a,b] ta) (hs:starEach [a,b] X.env = [(false,eval a X.env),(false,eval b X.env)]:=by rfl) (hs2:starEach [b] X.env = [(false,eval b X.env)]:=by rfl) :
    PI X tg (.Call (.Name "range" p) [a,b] [] pos) (iRng2 ta):=by
  intro pins s σ H R I h
  refine Call_ (ld_blt I hg hm boot_range (PyProof.Rows.callWith_type1 (thn (ha pos pins s σ H _ I h) fun us s1 ⟨vs,H1,I1,r1,q1⟩=>?_) (by rw [hs,hs2]) (by rw [hs2]; rfl)))
  obtain ⟨i,j,e,⟨q1,q2,q3,q4⟩,q⟩:=q1
  subst e
  cases r1 with
  | cons r rr =>
    cases rr with
    | cons r' rr =>
      cases rr
      obtain ⟨t,rfl⟩:=r
      obtain ⟨t',rfl⟩:=r'
      exact call_range_2 (range_it I1 q1 q2 q3 q4 q)
def tFor (wi:TI) (g:TG) (tb:TS):TS:=fun D σ H=>wi σ H fun J H1=>∃ W:Nat→Nat→St→Hp→Prop,(∃ m,W 0 m σ H1)∧∀ i m σ H,W i m σ H →
  (J.stop i H∧D.nx σ H)∨(J.go i H∧∃ N:St→Hp→Prop,(∀ σ' H',N σ' H'→∃ m',m' < m∧W (i + 1) m' σ' H')∧∀ x H',J.yld i H x H'→g x σ H' fun σ2 H2=>tb { D with nx:=N,ct:=N,bk:=D.nx } σ2 H2)
def pinsAt (fp:List Addr) (h:Heap):List (Addr × Obj):=fp.filterMap fun b=>(h.get? b).map fun o=>(b,o)
theorem mem_pinsAt {fp:List Addr} {h:Heap} {b:Addr} {o:Obj} (hb:b∈fp) (e:h.get? b = some o):(b,o)∈pinsAt fp h:=List.mem_filterMap.mpr ⟨b,hb,by rw [e]; rfl⟩
theorem of_pinsAt {fp:List Addr} {h:Heap} {p:Addr × Obj} (hp:p∈pinsAt fp h):p.1∈fp∧h.get? p.1 = some p.2:=by
  obtain ⟨b,hb,e⟩:=List.mem_filterMap.mp hp
  cases q:h.get? b with
  | none=>rw [q] at e; cases e
  | some o =>
    rw [q] at e
    have e':(b,o) = p:=Option.some.inj e
    subst e'
    exact ⟨hb,q⟩
theorem Inv.pinned {pins:List (Addr × Obj)} {σ:St} {H:Hp} {s:Shared} {fp:List Addr} (I:Inv X pins σ H s) (hf:∀ b∈fp,FpOk X pins H b) (ho:∀ b∈fp,∃ o,s.heap.get? b = some o∧∀ v,o.data≠.cell v):Inv X (pins ++ pinsAt fp s.heap) σ H s :=
  I.pins_of fun p hp=>(List.mem_append.mp hp).elim (fun z=>I.pin p (List.mem_append_right _ z)) fun z=>by
    obtain ⟨hb,e⟩:=of_pinsAt z
    obtain ⟨f0,f1,f2,_⟩:=hf p.1 hb
    obtain ⟨o,e',d⟩:=ho p.1 hb
    rw [e] at e'; cases e'
    exact ⟨e,f0,f1,f2,d⟩
theorem Inv.unpinned {pins pl:List (Addr × Obj)} {σ:St} {H:Hp} {s:Shared} (I:Inv X (pins ++ pl) σ H s):Inv X pins σ H s:=I.pins_of fun p hp=>I.pin p (List.mem_append_right _ (List.mem_append_left _ hp))
theorem ps_for {iter:Expr} {body:List Stmt} {wi:TI} {g:TG} {tb:TS} {pos:Pos} (hp:PassesOwn (model X.prog X.w) X.A X.env X.xe) (hc:X.calm = true) (hi:PI X tg iter wi) (hg:PG X tg g) (hb:PSs X body tb)
    (hs:∀ x,foldedSetIterable iter X.env x = pure x:=by intro _; rfl):PS X (.For tg iter body [] pos) (tFor wi g tb):=by
  intro pins s σ H D I h
  refine wpAny_For (thn (hi pins s σ H _ I h) fun v s1 h1=>thn h1 fun itv s2 h2=>?_) hs
  obtain ⟨it,fp,tn,J,H2,e,I2,T,st2,f2,W,⟨m0,w0⟩,turn⟩:=h2
  subst e
  have stat:∀ {H':Hp},(∀ b∈fp,H' b = none)→∀ b∈fp,FpOk X pins H' b:=fun hn b hb=>⟨hn b hb,(f2 b hb).2⟩
  refine codeAny_forLoop_any (fun n s'=>∃ i σ' H',Inv X pins σ' H' s'∧tn i s'.heap∧(∀ b∈fp,H' b = none)∧W i n σ' H') ?_ m0 ⟨0,σ,H2,I2,st2,fun b hb=>(f2 b hb).1,w0⟩
  rintro n s3 ⟨i,σ3,H3,I3,st3,fr3,w3⟩
  rcases turn i n σ3 H3 w3 with ⟨stop,qn⟩ | ⟨go,N,hN,step⟩
  · refine wpAny_passesOwn hp (thn (T.done X rfl rfl rfl hc i pins s3 σ3 H3 X.xe I3 (stat fr3) st3 stop) fun r s4 ⟨hr,I4⟩=>?_)
    subst hr
    exact wpAny_execs_nil ⟨σ3,H3,I4,qn⟩
  · refine wpAny_passesOwn hp (thn (T.item X rfl rfl rfl hc i pins s3 σ3 H3 X.xe I3 (stat fr3) st3 go) fun r s4 ⟨u,hr,h4⟩=>?_)
    subst hr
    refine wpAny_passesOwn hp (thn h4 fun _ s5 ⟨x,H5,I5,r5,y5,st5,fr5⟩=>?_)
    have I5':=I5.pinned (stat fr5) (T.obj _ _ st5)
    refine wpAny_passesOwn hp (thn (hg _ s5 σ3 H5 x u _ I5' r5 (step x H5 y5)) fun _ s6 ⟨σ6,H6,I6,q6⟩=>?_)
    refine wpAny_passesOwn hp (thn (hb _ s6 σ6 H6 _ I6 q6) fun f s7 q7=>?_)
    have again:∀ {σ7:St} {H7:Hp},Inv X (pins ++ pinsAt fp s5.heap) σ7 H7 s7→N σ7 H7→∃ m,m < n∧∃ i σ' H',Inv X pins σ' H' s7∧tn i s7.heap∧(∀ b∈fp,H' b = none)∧W i m σ' H':=fun {σ7 H7} I7 n7=>by
      obtain ⟨m',hm,w7⟩:=hN σ7 H7 n7
      refine ⟨m',hm,i + 1,σ7,H7,I7.unpinned,T.keep _ _ _ st5 fun b hb o e=>(I7.pin (b,o) (List.mem_append_right _ (List.mem_append_right _ (mem_pinsAt hb e)))).1,fun b hb=>?_,w7⟩
      obtain ⟨o,e,d⟩:=T.obj _ _ st5 b hb
      exact (I7.pin (b,o) (List.mem_append_right _ (List.mem_append_right _ (mem_pinsAt hb e)))).2.1
    cases f with
    | next=>obtain ⟨σ7,H7,I7,n7⟩:=q7; exact again I7 n7
    | cont=>obtain ⟨σ7,H7,I7,n7⟩:=q7; exact again I7 n7
    | brk=>obtain ⟨σ7,H7,I7,q7⟩:=q7; exact ⟨σ7,H7,I7.unpinned,q7⟩
    | ret v=>obtain ⟨x7,σ7,H7,I7,r7,q7⟩:=q7; exact ⟨x7,σ7,H7,I7.unpinned,r7,q7⟩
end
end L2
namespace L2
open PySem PySem.Spec PyProof.Rows
abbrev R2:=V→V→Hp→VK→Prop
def OpR (X:Cx) (f:Value→Value→Sem Value) (r:R2):Prop :=
  ∀ (pins:List (Addr × Obj)) (s:Shared) (σ:St) (H:Hp) (x y:V) (v u:Value) (Q:VK),Inv X pins σ H s→RelV x v→RelV y u→r x y H Q →
    wpAny (model X.prog X.w) X.A (f v u) (EP X pins σ Q) X.xe s
def UnR (X:Cx) (f:Value→Sem Value) (r:V→Hp→VK→Prop):Prop :=
  ∀ (pins:List (Addr × Obj)) (s:Shared) (σ:St) (H:Hp) (x:V) (v:Value) (Q:VK),Inv X pins σ H s→RelV x v→r x H Q →
    wpAny (model X.prog X.w) X.A (f v) (EP X pins σ Q) X.xe s
def CallR (X:Cx) (f:Value) (r:List V→Hp→VK→Prop):Prop :=
  ∀ (pins:List (Addr × Obj)) (s:Shared) (σ:St) (H:Hp) (xs:List V) (us:List Value) (Q:VK),Inv X pins σ H s→Vals xs us→r xs H Q →
    wpAny (model X.prog X.w) X.A (call f us) (EP X pins σ Q) X.xe s
def tOp (r:R2) (ta tb:TE):TE:=fun σ H Q=>ta σ H fun x H1=>tb σ H1 fun y H2=>r x y H2 Q
def tUn (r:V→Hp→VK→Prop) (ta:TE):TE:=fun σ H Q=>ta σ H fun x H1=>r x H1 Q
def rI (C:Int→Int→Prop) (g:Int→Int→V):R2:=fun x y H Q=>∃ i j,x = .int i∧y = .int j∧C i j∧Q (g i j) H
def rI0 (g:Int→Int→V):R2:=fun x y H Q=>∃ i j,x = .int i∧y = .int j∧Q (g i j) H
def rU (g:Int→V):V→Hp→VK→Prop:=fun x H Q=>∃ i,x = .int i∧Q (g i) H
section
variable {X:Cx} {a b c:Expr} {ta tb tc:TE} {pos:Pos}
theorem binT (ha:PE X a ta) (hb:PE X b tb) {pins:List (Addr × Obj)} {s:Shared} {σ:St} {H:Hp} {R:V→V→Hp→Prop} (I:Inv X pins σ H s)
    (h:ta σ H fun x H1=>tb σ H1 fun y H2=>R x y H2) {Q:Value→Shared→Prop} {f:Value→Value→Sem Value}
    (hf:∀ v u s2 x y H2,Inv X pins σ H2 s2→RelV x v→RelV y u→R x y H2→wpAny (model X.prog X.w) X.A (f v u) Q X.xe s2) :
    wpAny (model X.prog X.w) X.A (eval a X.env) (fun v s₁=>wpAny (model X.prog X.w) X.A (eval b X.env) (fun u s₂=>wpAny (model X.prog X.w) X.A (f v u) Q X.xe s₂) X.xe s₁) X.xe s:=by
  refine thn (ha pins s σ H _ I h) fun v s1 ⟨x,H1,I1,r1,q1⟩=>?_
  refine thn (hb pins s1 σ H1 _ I1 q1) fun u s2 ⟨y,H2,I2,r2,q2⟩=>?_
  exact hf v u s2 x y H2 I2 r1 r2 q2
theorem pe_op {op:Operator} {r:R2} (ho:OpR X (binaryOp op) r) (ha:PE X a ta) (hb:PE X b tb):PE X (.BinOp a op b pos) (tOp r ta tb):=by
  intro pins s σ H Q I h
  exact wpAny_BinOp (binT ha hb I h fun v u s2 x y H2 I2 rx ry q=>ho pins s2 σ H2 x y v u Q I2 rx ry q)
theorem pe_un {op:UnaryOp} {r:V→Hp→VK→Prop} (ho:UnR X (unaryOp op) r) (ha:PE X a ta):PE X (.UnaryOp op a pos) (tUn r ta):=by
  intro pins s σ H Q I h
  exact UnaryOp_ (thn (ha pins s σ H _ I h) fun v s1 ⟨x,H1,I1,r1,q1⟩=>ho pins s1 σ H1 x v Q I1 r1 q1)
theorem opI {f:Value→Value→Sem Value} {C:Int→Int→Prop} {g:Int→Int→Int}
    (rule:∀ (i j:Int) (t u:Tok) (s:Shared) (Q:Value→Shared→Prop) (E:Value→Shared→Prop),C i j→Q (.int (g i j) s.toks) { s with toks:=s.toks + 1 }→wpAny (model X.prog X.w) X.A (f (.int i t) (.int j u)) Q E s) :
    OpR X f (rI C fun i j=>.int (g i j)):=by
  intro pins s σ H x y v u Q I rx ry h
  obtain ⟨i,j,rfl,rfl,hc,q⟩:=h
  obtain ⟨t,rfl⟩:=rx
  obtain ⟨t',rfl⟩:=ry
  exact rule i j t t' s _ _ hc ⟨.int (g i j),H,I.tok _,⟨_,rfl⟩,q⟩
theorem opI0 {f:Value→Value→Sem Value} {g:Int→Int→Int}
    (rule:∀ (i j:Int) (t u:Tok) (s:Shared) (Q:Value→Shared→Prop) (E:Value→Shared→Prop),Q (.int (g i j) s.toks) { s with toks:=s.toks + 1 }→wpAny (model X.prog X.w) X.A (f (.int i t) (.int j u)) Q E s) :
    OpR X f (rI0 fun i j=>.int (g i j)):=by
  intro pins s σ H x y v u Q I rx ry h
  obtain ⟨i,j,rfl,rfl,q⟩:=h
  obtain ⟨t,rfl⟩:=rx
  obtain ⟨t',rfl⟩:=ry
  exact rule i j t t' s _ _ ⟨.int (g i j),H,I.tok _,⟨_,rfl⟩,q⟩
theorem opB0 {f:Value→Value→Sem Value} {g:Int→Int→Bool}
    (rule:∀ (i j:Int) (t u:Tok) (s:Shared) (Q:Value→Shared→Prop) (E:Value→Shared→Prop),Q (.bool (g i j)) s→wpAny (model X.prog X.w) X.A (f (.int i t) (.int j u)) Q E s) :
    OpR X f (rI0 fun i j=>.bl (g i j)):=by
  intro pins s σ H x y v u Q I rx ry h
  obtain ⟨i,j,rfl,rfl,q⟩:=h
  obtain ⟨t,rfl⟩:=rx
  obtain ⟨t',rfl⟩:=ry
  exact rule i j t t' s _ _ ⟨.bl (g i j),H,I,rfl,q⟩
def CDiv (i j:Int):Prop:=0 < j∧j < 1073741824
def CMul (i j:Int):Prop:=(-(2 ^ 64) < i∧i < 2 ^ 64)∨(-(2 ^ 64) < j∧j < 2 ^ 64)
theorem CMul.ok {i j:Int} (h:CMul i j):IntMulOk i j:=by
  rcases h with ⟨h1,h2⟩ | ⟨h1,h2⟩
  · exact .of_left (intBits_le_64 h1 h2)
  · exact .of_right (intBits_le_64 h1 h2)
theorem op_add:OpR X (binaryOp .Add) (rI0 fun i j=>.int (i + j)):=opI0 fun _ _ _ _ _ _ _ q=>add_int q
theorem op_sub:OpR X (binaryOp .Sub) (rI0 fun i j=>.int (i - j)):=opI0 fun _ _ _ _ _ _ _ q=>sub_int q
theorem op_mul:OpR X (binaryOp .Mult) (rI CMul fun i j=>.int (i * j)):=opI fun _ _ _ _ _ _ _ hc q=>mul_int q hc.ok
theorem op_fdiv:OpR X (binaryOp .FloorDiv) (rI CDiv fun i j=>.int (i / j)):=opI fun i j _ _ _ _ _ hc q=>by
  have h1:(0:Int) < j:=hc.1
  have h2:j < 1073741824:=hc.2
  exact floordiv_int (by omega) (by rw [Int.fdiv_eq_ediv_of_nonneg i (by omega)]; exact q) (.inl (PyProof.noPylong_small (by omega)))
theorem op_mod:OpR X (binaryOp .Mod) (rI (fun _ j=>0 < j) fun i j=>.int (i % j)):=opI fun i j _ _ _ _ _ hc q=>by
  have h1:(0:Int) < j:=hc
  exact mod_int' (by omega) (by rw [Int.fmod_eq_emod_of_nonneg i (by omega)]; exact q)
theorem unI {f:Value→Sem Value} {g:Int→Int}
    (rule:∀ (i:Int) (t:Tok) (s:Shared) (Q:Value→Shared→Prop) (E:Value→Shared→Prop),Q (.int (g i) s.toks) { s with toks:=s.toks + 1 }→wpAny (model X.prog X.w) X.A (f (.int i t)) Q E s) :
    UnR X f (rU fun i=>.int (g i)):=by
  intro pins s σ H x v Q I rx h
  obtain ⟨i,rfl,q⟩:=h
  obtain ⟨t,rfl⟩:=rx
  exact rule i t s _ _ ⟨.int (g i),H,I.tok _,⟨_,rfl⟩,q⟩
theorem un_neg:UnR X (unaryOp .USub) (rU fun i=>.int (-i)):=unI fun _ _ _ _ _ q=>neg_int q
end
def scal:V→V→Bool
  | .non,.non=>true | .non,.int _=>true | .int _,.non=>true | .non,.bl _=>true | .bl _,.non=>true | .non,.str _=>true | .str _,.non=>true
  | .int _,.int _=>true | .bl _,.bl _=>true | .str _,.str _=>true | .byt _,.byt _=>true
  | .int _,.str _=>true | .str _,.int _=>true | .bl _,.str _=>true | .str _,.bl _=>true
  | _,_=>false
def rNe:R2:=fun x y H Q=>scal x y = true∧Q (.bl (!decide (x = y))) H
theorem dec_int {i j:Int}:decide (V.int i = V.int j) = (i == j):=by
  rw [Bool.eq_iff_iff]
  simp
theorem dec_bl {i j:Bool}:decide (V.bl i = V.bl j) = (i == j):=by
  rw [Bool.eq_iff_iff]
  simp
theorem dec_str {i j:Str}:decide (V.str i = V.str j) = (i == j):=by
  rw [Bool.eq_iff_iff]
  simp
theorem dec_byt {i j:Array UInt8}:decide (V.byt i = V.byt j) = (i.toList == j.toList):=by
  rw [Bool.eq_iff_iff]
  cases i
  cases j
  simp
section
variable {X:Cx} {a b c:Expr} {ta tb tc:TE} {pos:Pos}
theorem fin_bl {pins:List (Addr × Obj)} {σ:St} {H:Hp} {s:Shared} {Q:VK} {k k':Bool} (I:Inv X pins σ H s) (q:Q (.bl k) H) (e:k = k'):EP X pins σ Q (.bool k') s:=by
  subst e
  exact ⟨.bl k,H,I,rfl,q⟩
theorem op_ne:OpR X (compareOp .NotEq) rNe:=by
  intro pins s σ H x y v u Q I rx ry h
  obtain ⟨hs,q⟩:=h
  cases x with
  | non =>
    cases rx
    cases y with
    | non=>cases ry; exact PySem.EqNone.ne_none_none (fin_bl I q (by simp))
    | bl j=>cases ry; exact PySem.EqNone.ne_none_bool (fin_bl I q (by simp))
    | int j=>obtain ⟨t',rfl⟩:=ry; exact PySem.EqNone.ne_none_int (fin_bl I q (by simp))
    | str j=>obtain ⟨t',rfl⟩:=ry; exact PySem.EqNone.ne_none_str (fin_bl I q (by simp))
    | _=>exact absurd (show false = true from hs) Bool.false_ne_true
  | bl i =>
    cases rx
    cases y with
    | non=>cases ry; exact PySem.EqNone.ne_bool_none (fin_bl I q (by simp))
    | bl j=>cases ry; exact ne_bool (fin_bl I q (congrArg not dec_bl))
    | str j=>obtain ⟨t',rfl⟩:=ry; exact PySem.EqMixed.ne_bool_str (fin_bl I q (by simp))
    | _=>exact absurd (show false = true from hs) Bool.false_ne_true
  | int i =>
    obtain ⟨t,rfl⟩:=rx
    cases y with
    | non=>cases ry; exact PySem.EqNone.ne_int_none (fin_bl I q (by simp))
    | int j=>obtain ⟨t',rfl⟩:=ry; exact ne_int (fin_bl I q (congrArg not dec_int))
    | str j=>obtain ⟨t',rfl⟩:=ry; exact PySem.EqMixed.ne_int_str (fin_bl I q (by simp))
    | _=>exact absurd (show false = true from hs) Bool.false_ne_true
  | str i =>
    obtain ⟨t,rfl⟩:=rx
    cases y with
    | non=>cases ry; exact PySem.EqNone.ne_str_none (fin_bl I q (by simp))
    | bl j=>cases ry; exact PySem.EqMixed.ne_str_bool (fin_bl I q (by simp))
    | int j=>obtain ⟨t',rfl⟩:=ry; exact PySem.EqMixed.ne_str_int (fin_bl I q (by simp))
    | str j=>obtain ⟨t',rfl⟩:=ry; exact ne_str (fin_bl I q (congrArg not dec_str))
    | _=>exact absurd (show false = true from hs) Bool.false_ne_true
  | byt i =>
    obtain ⟨t,rfl⟩:=rx
    cases y with
    | byt j=>obtain ⟨t',rfl⟩:=ry; exact PySem.W.ne_bytes (fin_bl I q (congrArg not dec_byt))
    | _=>exact absurd (show false = true from hs) Bool.false_ne_true
  | _=>cases y <;> exact absurd (show false = true from hs) Bool.false_ne_true
theorem op_lt:OpR X (compareOp .Lt) (rI0 fun i j=>.bl (decide (i < j))):=opB0 fun _ _ _ _ _ _ _ q=>lt_int q
theorem op_le:OpR X (compareOp .LtE) (rI0 fun i j=>.bl (decide (i≤j))):=opB0 fun _ _ _ _ _ _ _ q=>le_int q
theorem op_in_str:OpR X (compareOp .In) (fun x y H Q=>∃ i j,x = .str i∧y = .str j∧Q (.bl (!(Builtin.Str.occurrences j i 0 j.length 1).isEmpty)) H):=by
  intro pins s σ H x y v u Q I rx ry h
  obtain ⟨i,j,rfl,rfl,q⟩:=h
  obtain ⟨t,rfl⟩:=rx
  obtain ⟨t',rfl⟩:=ry
  exact in_str (fin_bl I q rfl)
theorem OpR.or {f:Value→Value→Sem Value} {r r':R2} (h:OpR X f r) (h':OpR X f r'):OpR X f (fun x y H Q=>r x y H Q∨r' x y H Q):=by
  intro pins s σ H x y v u Q I rx ry q
  rcases q with q | q
  · exact h pins s σ H x y v u Q I rx ry q
  · exact h' pins s σ H x y v u Q I rx ry q
theorem nomark (b:Expr) {op:CmpOp} (h:op≠.In:=by decide) (h2:op≠.NotIn:=by decide):behindInMarks op b = false:=by
  have e1:(op == CmpOp.In) = false:=by cases op <;> first | rfl | exact absurd rfl h
  have e2:(op == CmpOp.NotIn) = false:=by cases op <;> first | rfl | exact absurd rfl h2
  cases b <;> simp [behindInMarks,e1,e2]
theorem pe_cmpR {op:CmpOp} {r:R2} (ho:OpR X (compareOp op) r) (ha:PE X a ta) (hb:PE X b tb) (hm:behindInMarks op b = false):PE X (.Compare a [op] [b] pos) (tOp r ta tb):=by
  intro pins s σ H Q I h
  exact wpAny_Compare1 (binT ha hb I h fun v u s2 x y H2 I2 rx ry q=>ho pins s2 σ H2 x y v u Q I2 rx ry q) hm
def tTest (t:TE):TT:=fun σ H Q=>t σ H fun x H'=>∃ k,x = .bl k∧Q k H'
theorem pt_cmpR {op:CmpOp} {r:R2} (ho:OpR X (compareOp op) r) (ha:PE X a ta) (hb:PE X b tb) (hm:behindInMarks op b = false):PT X (.Compare a [op] [b] pos) (tTest (tOp r ta tb)):=by
  intro pins s σ H Q I h
  refine wpAny_isTrue_Compare1 (thn (ha pins s σ H _ I h) fun v s1 ⟨x,H1,I1,r1,q1⟩=>thn (hb pins s1 σ H1 _ I1 q1) fun u s2 ⟨y,H2,I2,r2,q2⟩ =>
    thn (ho pins s2 σ H2 x y v u _ I2 r1 r2 q2) fun c s3 ⟨z,H3,I3,r3,k,e,q3⟩=>?_) hm
  subst e
  cases r3
  exact wpAny_truthy_bool ⟨H3,I3,q3⟩
def tChain (r r':R2) (ta tb tc:TE):TE:=fun σ H Q=>ta σ H fun x H1=>tb σ H1 fun y H2=>r x y H2 fun z H3=>∃ k,z = .bl k ∧
  (if k = true then tc σ H3 fun w' H4=>r' y w' H4 Q else Q (.bl false) H3)
theorem pe_chain {op op':CmpOp} {r r':R2} (ho:OpR X (compareOp op) r) (ho':OpR X (compareOp op') r') (ha:PE X a ta) (hb:PE X b tb) (hc:PE X c tc)
    (hm:lastMarks [op,op'] [b,c] = false:=by with_unfolding_all rfl):PE X (.Compare a [op,op'] [b,c] pos) (tChain r r' ta tb tc):=by
  intro pins s σ H Q I h
  refine Compare_chain (thn (ha pins s σ H _ I h) fun v s1 ⟨x,H1,I1,r1,q1⟩=>chain_link (thn (hb pins s1 σ H1 _ I1 q1) fun u s2 ⟨y,H2,I2,r2,q2⟩ =>
    thn (ho pins s2 σ H2 x y v u _ I2 r1 r2 q2) fun d s3 ⟨z,H3,I3,r3,k,e,q3⟩=>?_)) hm
  subst e
  cases r3
  refine wpAny_truthy_bool ?_
  cases k with
  | false=>exact ite_ff ⟨.bl false,H3,I3,rfl,q3⟩
  | true=>exact ite_tt (chain_last (thn (hc pins s3 σ H3 _ I3 q3) fun w' s4 ⟨z',H4,I4,r4,q4⟩=>ho' pins s4 σ H4 y z' u w' Q I4 r2 r4 q4))
theorem pt_chain {op op':CmpOp} {r r':R2} (ho:OpR X (compareOp op) r) (ho':OpR X (compareOp op') r') (ha:PE X a ta) (hb:PE X b tb) (hc:PE X c tc)
    (hm:lastMarks [op,op'] [b,c] = false:=by with_unfolding_all rfl):PT X (.Compare a [op,op'] [b,c] pos) (tTest (tChain r r' ta tb tc)):=by
  intro pins s σ H Q I h
  refine isTrue_chain (thn (ha pins s σ H _ I h) fun v s1 ⟨x,H1,I1,r1,q1⟩=>test_link (thn (hb pins s1 σ H1 _ I1 q1) fun u s2 ⟨y,H2,I2,r2,q2⟩ =>
    thn (ho pins s2 σ H2 x y v u _ I2 r1 r2 q2) fun d s3 ⟨z,H3,I3,r3,k,e,q3⟩=>?_)) hm
  subst e
  cases r3
  refine wpAny_truthy_bool ?_
  cases k with
  | false =>
    obtain ⟨k',e',q'⟩:=q3
    cases e'
    exact ite_ff ⟨H3,I3,q'⟩
  | true =>
    refine ite_tt (test_last (thn (hc pins s3 σ H3 _ I3 q3) fun w' s4 ⟨z',H4,I4,r4,q4⟩=>thn (ho' pins s4 σ H4 y z' u w' _ I4 r2 r4 q4) fun d' s5 ⟨z2,H5,I5,r5,k2,e2,q5⟩=>?_))
    subst e2
    cases r5
    exact wpAny_truthy_bool ⟨H5,I5,q5⟩
theorem line63:(sizeLine:Nat) < 2 ^ 63:=by rw [sizeLine_eq]; decide
theorem op_add_str:OpR X (binaryOp .Add) (fun x y H Q=>∃ i j,x = .str i∧y = .str j∧i.length + j.length≤sizeLine∧Q (.str (i ++ j)) H):=by
  intro pins s σ H x y v u Q I rx ry h
  obtain ⟨i,j,rfl,rfl,hz,q⟩:=h
  obtain ⟨t,rfl⟩:=rx
  obtain ⟨t',rfl⟩:=ry
  exact add_str (fun t' tk=>⟨.str (i ++ j),H,I.tok _,⟨_,rfl⟩,q⟩) hz
theorem vals1 {x:V} {us:List Value} (r:Vals [x] us):∃ u,us = [u]∧RelV x u:=by
  cases r with
  | cons r1 r2=>cases r2; exact ⟨_,rfl,r1⟩
theorem vals2 {x y:V} {us:List Value} (r:Vals [x,y] us):∃ u w',us = [u,w']∧RelV x u∧RelV y w':=by
  cases r with
  | cons r1 r2 =>
    cases r2 with
    | cons r3 r4=>cases r4; exact ⟨_,_,rfl,r1,r3⟩
theorem call_min2 (hc:X.calm = true):CallR X (.builtin "min") (fun xs H Q=>∃ i j,xs = [.int i,.int j]∧Q (.int (if j < i then j else i)) H):=by
  intro pins s σ H xs us Q I r h
  obtain ⟨i,j,rfl,q⟩:=h
  obtain ⟨u,w',rfl,⟨t,rfl⟩,⟨t',rfl⟩⟩:=vals2 r
  refine min_two_ints (I.ok.hd hc) fun h' tk k=>⟨_,H,I.kept k,?_,q⟩
  by_cases hj:j < i
  · rw [if_pos hj,if_pos hj]; exact ⟨_,rfl⟩
  · rw [if_neg hj,if_neg hj]; exact ⟨_,rfl⟩
end
end L2
namespace L2
open PySem PySem.Spec PyProof.Rows
structure ObjM (h:Heap) (x dx C:Addr) (mA:Str→Option Value):Prop where
  obj:h.get? x = some (PySem.W.instObj C dx)
  ns:h.Ns1 dx mA
  ne:dx≠x
theorem lookIn_ns {h:Heap} {dx:Addr} {mA:Str→Option Value} (n:h.Ns1 dx mA):∃ od,h.get? dx = some od∧∀ name,PySem.W.lookIn name od = some (mA name):=by
  obtain ⟨o,es,ep,ho,hd,hk,_,hm⟩:=n
  refine ⟨o,ho,fun name=>?_⟩
  have e:=hm name
  unfold nsFind findBy at e
  rw [← Array.find?_toList] at e
  unfold PySem.W.lookIn
  rw [hd]
  dsimp only
  split
  · rename_i y q
    rw [q] at e
    exact congrArg some e
  · rename_i q
    rw [q] at e
    have a:es.toList.any (·.refKey) = false:=by
      rw [List.any_eq_false]
      intro y hy
      obtain ⟨z,t,hkey⟩:=hk y (Array.mem_toList_iff.mp hy)
      simp [DictEntry.refKey,hkey]
    have a':¬ es.toList.any (·.refKey) = true:=by rw [a]; exact Bool.false_ne_true
    rw [if_neg a']
    exact congrArg some e
theorem ObjM.look {h:Heap} {x dx C:Addr} {mA:Str→Option Value} (I:ObjM h x dx C mA):∃ od,PySem.W.InstAt h x (PySem.W.instObj C dx) C (some od)∧∀ name,PySem.W.lookIn name od = some (mA name) :=
  let ⟨od,ho,hl⟩:=lookIn_ns I.ns
  ⟨od,⟨I.obj,rfl,rfl,ho⟩,hl⟩
section
variable {prog:Program} {w:World} {A:Around} {E:Value→Shared→Prop} {s:Shared} {K:PySem.W.Frag} {x dx C f:Addr} {mA:Str→Option Value} {name:Str} {v:Value}
end
theorem RelO.some_of {v:V} {o:Option Value} (r:RelO (some v) o):∃ u,o = some u∧RelV v u:=by
  cases o with
  | none=>exact (show False from r).elim
  | some u=>exact ⟨u,rfl,r⟩
section
variable {P:Program} {w:World} {H H':Hp} {h h':Heap} {a C dx:Addr} {fs fs':List (Str × V)}
theorem ins_get (hok:HOk P w H h) (e:H a = some (.ins C dx fs)):∃ mA,ObjM h a dx C mA∧(∀ f,RelO (fs.lookup f) (mA f))∧PySem.Within mA (fs.map (·.1))∧fs.length≤1000∧H dx = some (.own a):=by
  obtain ⟨d,z,ne,ob,mA,n,r,q⟩:=(show ObjOk P w H h a (.ins C dx fs) from hok a _ e)
  exact ⟨mA,⟨ob,n,ne⟩,r,q,z,d⟩
end
structure Cls (K:PySem.W.Frag) (C:Addr):Prop where
  pg:PySem.W.plainGet K C Str.empty = true
  hd:PySem.W.hasDictIn K C = true
  po:PySem.W.plainOver K C = true
  sa:PySem.W.findIn K (.ref C) "__setattr__" = some (some (.builtin "object.__setattr__"))
theorem Cls.get {K:PySem.W.Frag} {C:Addr} (c:Cls K C) (f:Str):PySem.W.plainGet K C f = true:=c.pg
section
variable {X:Cx} {pins:List (Addr × Obj)} {σ:St} {H:Hp} {s:Shared} {a C dx:Addr} {fs:List (Str × V)} {f:Str} {v:V} {A:Around} {E:Value→Shared→Prop}
end
section
variable {X:Cx} {o e value:Expr} {f:Str} {pos pos' tpos:Pos} {ta tv:TE}
end
section
variable {X:Cx} {pins:List (Addr × Obj)} {σ:St} {H:Hp} {s:Shared} {A:Around} {E:Value→Shared→Prop} {Q:Value→Shared→Prop} {c:Value} {b:Bool}
inductive TyOf (K:PySem.W.Frag) (H:Hp):V→Value→Prop where
  | non:TyOf K H .non (.type "NoneType")
  | bl (x:Bool):TyOf K H (.bl x) (.type "bool")
  | int (i:Int):TyOf K H (.int i) (.type "int")
  | str (x:Str):TyOf K H (.str x) (.type "str")
  | flt (x:UInt64):TyOf K H (.flt x) (.type "float")
  | lst {a:Addr} {xs:List V} (e:H a = some (.lst xs)):TyOf K H (.ref a) (.type "list")
  | frz {a:Addr} {o:Obj} {xs:List V} (e:H a = some (.frz o (.lst xs))):TyOf K H (.ref a) (.type "list")
  | tup {a:Addr} {xs:List V} (e:H a = some (.tup xs)):TyOf K H (.ref a) (.type "tuple")
  | dK {a:Addr} {kvs:List (Key × V)} (e:H a = some (.dK kvs)):TyOf K H (.ref a) (.type "dict")
  | dT {a:Addr} {kvs:List (List TKey × V)} (e:H a = some (.dT kvs)):TyOf K H (.ref a) (.type "dict")
  | ins {a C dx:Addr} {fs:List (Str × V)} (e:H a = some (.ins C dx fs)) (cl:Cls K C) (ha:PySem.W.findIn K (.ref C) "__class__" = some (some (.builtin "object.__class__")))
      (hn:PySem.W.specialIn K (.builtin "object.__class__") "__get__" = some (some (.builtin "getset_descriptor.__get__"))) (htk:PySem.W.takesIn K (.builtin "object.__class__") = some true)
      (hm:PySem.W.mroIn K C (.type "object") = some true):TyOf K H (.ref a) (.ref C)
theorem isinst_ok {x:V} {u t:Value} (I:Inv X pins σ H s) (rx:RelV x u) (ty:TyOf X.K H x t) (e:PySem.W.kitOne X.K t c = some b) (h:∀ tk,Q (.bool b) { s with toks:=tk }) :
    wpAny (model X.prog X.w) A (call (.builtin "isinstance") [u,c]) Q E s:=by
  cases ty with
  | non=>cases (show u = Value.none from rx); exact PySem.W.kia_one PySem.W.kitx_none I.kIn True.intro e (fun z=>nomatch z) h
  | bl y=>cases (show u = Value.bool y from rx); exact PySem.W.kia_one PySem.W.kitx_bool I.kIn True.intro e (fun z=>nomatch z) h
  | int i=>obtain ⟨t,q⟩:=(show ∃ t,u = Value.int i t from rx); cases q; exact PySem.W.kia_one PySem.W.kitx_int I.kIn True.intro e (fun z=>nomatch z) h
  | str y=>obtain ⟨t,q⟩:=(show ∃ t,u = Value.str y t from rx); cases q; exact PySem.W.kia_one PySem.W.kitx_str I.kIn True.intro e (fun z=>nomatch z) h
  | flt y=>obtain ⟨t,q⟩:=(show ∃ t,u = Value.float y t from rx); cases q; exact PySem.W.kia_one PySem.W.kitx_float I.kIn True.intro e (fun z=>nomatch z) h
  | @lst a xs ea =>
    cases (show u = Value.ref a from rx)
    obtain ⟨_,_,n,_,h1⟩:=(show ObjOk X.prog X.w H s.heap a (.lst xs) from I.hok a _ ea)
    exact PySem.W.kia_one PySem.W.kitx_list I.kIn ⟨_,h1,rfl⟩ e (fun z=>nomatch z) h
  | @frz a ob xs ea =>
    cases (show u = Value.ref a from rx)
    obtain ⟨_,_,_,n,_,h1⟩:=(show ObjOk X.prog X.w H s.heap a (.frz ob (.lst xs)) from I.hok a _ ea)
    exact PySem.W.kia_one PySem.W.kitx_list I.kIn ⟨_,h1,rfl⟩ e (fun z=>nomatch z) h
  | @tup a xs ea =>
    cases (show u = Value.ref a from rx)
    obtain ⟨_,_,_,p⟩:=(show ObjOk X.prog X.w H s.heap a (.tup xs) from I.hok a _ ea)
    obtain ⟨o,h1,h2,_⟩:=p
    exact PySem.W.kia_one PySem.W.kitx_tuple I.kIn ⟨o,h1,h2⟩ e (fun z=>nomatch z) h
  | @dK a kvs ea =>
    cases (show u = Value.ref a from rx)
    obtain ⟨_,_,vs,_,p⟩:=(show ObjOk X.prog X.w H s.heap a (.dK kvs) from I.hok a _ ea)
    obtain ⟨o,es,ep,h1,h2,_⟩:=p
    exact PySem.W.kia_one PySem.W.kitx_dict I.kIn ⟨o,h1,h2.1⟩ e (fun z=>nomatch z) h
  | @dT a kvs ea =>
    cases (show u = Value.ref a from rx)
    obtain ⟨_,_,xs,_,o,es,ep,h1,h2,_⟩:=(show ObjOk X.prog X.w H s.heap a (.dT kvs) from I.hok a _ ea)
    exact PySem.W.kia_one PySem.W.kitx_dict I.kIn ⟨o,h1,h2.1⟩ e (fun z=>nomatch z) h
  | @ins a C dx fs ea cl ha hn htk hm =>
    cases (show u = Value.ref a from rx)
    obtain ⟨mA,O,_⟩:=ins_get I.hok ea
    obtain ⟨od,J,_⟩:=O.look
    exact PySem.W.kia_one (PySem.W.kitx_own (cl.get _) cl.hd ha hn htk hm) I.kIn J e (fun z=>nomatch z) h
end
end L2
namespace L2
open PySem PySem.Spec PyProof.Rows
structure Room (k:Nat) (A:Around):Prop where
  hd:A.handled = none
  dp:A.depth + 3 * k + 5 < recursionLimit
  un:A.units + 16 * k + 200 < cLine
theorem Room.mono {j k:Nat} {A:Around} (r:Room k A) (h:j≤k):Room j A:=⟨r.hd,by have:=r.dp; omega,by have:=r.un; omega⟩
theorem Room.deeper {k:Nat} {A:Around} (r:Room (k + 1) A) (env:Env):Room k (A.deeper env) :=
  ⟨r.hd,by have:=r.dp; show A.depth + 1 + 3 * k + 5 < _; omega,by have:=r.un; show A.units + 3 + 16 * k + 200 < _; omega⟩
theorem Room.in1 {k:Nat} {A:Around} (r:Room (k + 1) A):Room k A.in1 :=
  ⟨r.hd,by have:=r.dp; show A.depth + 3 * k + 5 < _; omega,by have:=r.un; show A.units + 1 + 16 * k + 200 < _; omega⟩
theorem Room.depth {k:Nat} {A:Around} (r:Room k A):A.depth < recursionLimit:=by have:=r.dp; omega
theorem Room.units {k:Nat} {A:Around} (r:Room k A):A.units + 64 < cLine:=by have:=r.un; omega
def tNil:TA:=fun _ H Q=>Q [] H
def tCons (ta:TE) (tr:TA):TA:=fun σ H Q=>ta σ H fun x H1=>tr σ H1 fun xs H2=>Q (x :: xs) H2
section
variable {X:Cx} {e:Expr} {es:List Expr} {te:TE} {t:TA} {pos:Pos}
theorem pa_nil:PA X [] tNil:=fun _ _ _ _ H Q I h=>Calls.spliced_nil ⟨[],H,I,.nil,h⟩
theorem pa_cons (ha:PE X e te) (hr:PA X es t) (hs:starEach (e :: es) X.env = (false,eval e X.env) :: starEach es X.env:=by rfl):PA X (e :: es) (tCons te t):=by
  intro pos pins s σ H Q I h
  rw [hs]
  show wpAny _ _ (spliced ((false,eval e X.env) :: backTo pos (starEach es X.env))) _ _ s
  refine Calls.spliced_cons (thn (ha pins s σ H _ I h) fun u s1 ⟨x,H1,I1,r1,q1⟩=>?_)
  exact thn (hr pos pins s1 σ H1 _ I1 q1) fun us s2 ⟨xs,H2,I2,r2,q2⟩=>⟨x :: xs,H2,I2,.cons r1 r2,q2⟩
def tTup (t:TA):TE:=fun σ H Q=>t σ H fun xs H1=>xs.length≤sizeLine∧∀ p,H1 p = none→Q (.ref p) (upd H1 p (.tup xs))
def tLst (t:TA):TE:=fun σ H Q=>t σ H fun xs H1=>xs.length≤sizeLine∧∀ p,H1 p = none→Q (.ref p) (upd H1 p (.lst xs))
theorem pe_tup {x1} (h:PA X es t):PE X (.Tuple es x1 pos) (tTup t):=by
  intro pins s σ H Q I hq
  refine wpAny_Tuple_spliced (thn (h pos pins s σ H _ I hq) fun us s1 ⟨xs,H1,I1,r,z,q⟩=>⟨by rw [← r.length]; exact z,?_⟩)
  have hf:H1 s1.heap.objs.size = none:=I1.hok.fresh (Nat.le_refl _)
  refine ⟨.ref s1.heap.objs.size,upd H1 s1.heap.objs.size (.tup xs),I1.laid (t':=s1.toks) (fun b u e=>Heap.get?_push_of_some _ e) (Nat.le_refl _) ?_,rfl,q _ hf⟩
  exact ⟨z,us,r,⟨_,Heap.get?_push_size _ rfl,rfl,_,rfl⟩⟩
theorem pe_lst (h:PA X es t):PE X (.List es pos) (tLst t):=by
  intro pins s σ H Q I hq
  refine wpAny_List_spliced (thn (h pos pins s σ H _ I hq) fun us s1 ⟨xs,H1,I1,r,z,q⟩=>⟨by rw [← r.length]; exact z,?_⟩)
  have hf:H1 s1.heap.objs.size = none:=I1.hok.fresh (Nat.le_refl _)
  refine ⟨.ref s1.heap.objs.size,upd H1 s1.heap.objs.size (.lst xs),I1.laid (t':=s1.toks) (fun b u e=>Heap.get?_push_of_some _ e) (Nat.le_refl _) ?_,rfl,q _ hf⟩
  exact ⟨z,us,0,r,Heap.get?_push_size _ rfl⟩
end
abbrev Sp:=List V→Hp→VK→XK→Prop
abbrev CXT:=List Env→Hp→Shared→XK→Value→Shared→Prop
structure Env0 (P:Program) (w:World) (K:PySem.W.Frag) (mg:Str→Option Value) (base:Heap) (A:Around) (outer:List Env) (s:Shared) (H:Hp):Prop where
  frames:A.frames = some outer
  mod:Mod K mg base
  bs:∀ b o,base.get? b = some o→s.heap.get? b = some o∧H b = none
  bsz:base.objs.size≤s.heap.objs.size
  funs:s.heap.FunFrames base outer
  frf:∀ b∈frs outer,H b = none
  hok:HOk P w H s.heap
  bare:AllBare s.gens
def CE (outer:List Env) (P:Program) (w:World) (H:Hp) (s:Shared) (Q:VK) (u:Value) (s':Shared):Prop :=
  ∃ v H',s'.os = s.os∧AllBare s'.gens∧Un (frs outer) [] H H' s.heap s'.heap∧HOk P w H' s'.heap∧RelV v u∧Q v H'
def CR (CX:CXT) (outer:List Env) (P:Program) (w:World) (H:Hp) (s:Shared) (Q:VK) (E:XK) (r:Result) (s':Shared):Prop :=
  match r with
  | .ok (.ret u)=>CE outer P w H s Q u s'
  | .ok _=>False
  | .error e=>CX outer H s E e s'
structure FnOk (P:Program) (w:World) (K:PySem.W.Frag) (mg:Str→Option Value) (base:Heap) (CX:CXT) (k:Nat) (f:Addr) (fd:FuncData) (ps:List Str) (sp:Sp):Prop where
  len:∀ vs H Q E,sp vs H Q E→vs.length = ps.length
  run:∀ (A:Around) (outer:List Env) (s:Shared) (H:Hp) (args:Args) (us:List Value) (vs:List V) (Q:VK) (E:XK),Room k A→Env0 P w K mg base A outer s H→BindsTo s fd args (ps.zip us)→Vals vs us→sp vs H Q E →
    codeAny (model P w) A (.call (.ref f) args) (CR CX outer P w H s Q E) s
theorem FnOk.imp {P:Program} {w:World} {K:PySem.W.Frag} {mg:Str→Option Value} {base:Heap} {CX:CXT} {k:Nat} {f:Addr} {fd:FuncData} {ps:List Str} {sp sp':Sp} (F:FnOk P w K mg base CX k f fd ps sp)
    (h:∀ vs H Q E,sp' vs H Q E→sp vs H Q E):FnOk P w K mg base CX k f fd ps sp' :=
  ⟨fun vs H Q E q=>F.len vs H Q E (h _ _ _ _ q),fun A outer s H args us vs Q E hr he hb hv hs=>F.run A outer s H args us vs Q E hr he hb hv (h _ _ _ _ hs)⟩
theorem Env0.in1 {P:Program} {w:World} {K:PySem.W.Frag} {mg:Str→Option Value} {base:Heap} {A:Around} {outer:List Env} {s:Shared} {H:Hp} (e:Env0 P w K mg base A outer s H) :
    Env0 P w K mg base A.in1 outer s H:=⟨e.frames,e.mod,e.bs,e.bsz,e.funs,e.frf,e.hok,e.bare⟩
section
variable {X:Cx} {pins:List (Addr × Obj)} {σ:St} {H:Hp} {s s':Shared}
theorem Inv.env0 (I:Inv X pins σ H s):Env0 X.prog X.w X.K X.mg X.base X.A X.stack s H :=
  ⟨I.ok.frames,I.ok.mod,I.bs,Nat.le_trans I.ok.bsz I.sz,I.stack,I.stkFree,I.hok,I.bare⟩
theorem Inv.after {Q:VK} {u:Value} (I:Inv X pins σ H s) (h:CE X.stack X.prog X.w H s Q u s'):EP X pins σ Q u s':=by
  obtain ⟨v,H',os,bare,un,hok,r,q⟩:=h
  obtain ⟨hh,g,d,t,os'⟩:=s'
  obtain rfl:os' = s.os:=os
  exact ⟨v,H',I.call (h':=hh) (g':=g) (d':=d) (t':=t) (ch:=[]) un hok bare (fun b z=>absurd z (by simp)),r,q⟩
end
def tCall (sp:Sp) (dvs:List V) (E:XK) (t:TA):TE:=fun σ H Q=>t σ H fun vs H1=>sp (vs ++ dvs) H1 Q E
def Binds (K:PySem.W.Frag) (fd:FuncData) (ps:List Str) (ds:List Value):Prop :=
  ∀ (s:Shared) (us:List Value),K.In s.heap→(us ++ ds).length = ps.length→BindsTo s fd ⟨us,[]⟩ (ps.zip (us ++ ds))
theorem Binds.all {K:PySem.W.Frag} {fd:FuncData} {ps:List Str} (h:∀ us:List Value,us.length = ps.length→bindArgs fd ⟨us,[]⟩ = pure (ps.zip us)):Binds K fd ps []:=fun s us _ hl=>by
  rw [List.append_nil] at hl ⊢
  exact .of_eq (h us hl)
def Passes (CX:CXT) (X:Cx) (E:XK):Prop:=∀ (pins:List (Addr × Obj)) (σ:St) (H:Hp) (s:Shared) (e:Value) (s':Shared),Inv X pins σ H s→CX X.stack H s E e s'→X.xe e s'
section
variable {X:Cx} {CX:CXT} {k:Nat} {f C:Addr} {fd:FuncData} {ps:List Str} {sp:Sp} {dvs:List V} {ds:List Value} {E:XK} {x m:Str} {p pos apos:Pos} {e o:Expr} {es:List Expr} {ta:TE} {t:TA}
theorem run_fn {pins:List (Addr × Obj)} {σ:St} {H:Hp} {s:Shared} {Q:VK} {us:List Value} {vs:List V} (F:FnOk X.prog X.w X.K X.mg X.base CX k f fd ps sp) (hr:Room k X.A) (hb:Binds X.K fd ps ds) (hd:Vals dvs ds) (hx:Passes CX X E)
    (I:Inv X pins σ H s) (r:Vals vs us) (h:sp (vs ++ dvs) H Q E):wpAny (model X.prog X.w) X.A (call (.ref f) us) (EP X pins σ Q) X.xe s:=by
  have r2:Vals (vs ++ dvs) (us ++ ds):=r.append hd
  have hl:(us ++ ds).length = ps.length:=by rw [← r2.length]; exact F.len _ _ _ _ h
  refine wpAny_call (codeAny_mono (F.run X.A X.stack s H ⟨us,[]⟩ (us ++ ds) (vs ++ dvs) Q E hr I.env0 (hb s us I.kIn hl) r2 h) fun r s' hq=>?_)
  cases r with
  | error e=>exact hx pins σ H s e s' I hq
  | ok fl =>
    cases fl with
    | ret u=>exact I.after hq
    | next=>exact False.elim hq
    | brk=>exact False.elim hq
    | cont=>exact False.elim hq
theorem pe_call (F:FnOk X.prog X.w X.K X.mg X.base CX k f fd ps sp) (hr:Room k X.A) (hg:Gl X x) (hm:X.mg x = some (.ref f)) (hk:PySem.W.keepIn X.K (.ref f) = true) (hb:Binds X.K fd ps ds) (hd:Vals dvs ds) (hx:Passes CX X E)
    (ha:PA X (e :: es) t) (hdb:(x == ("__debug__" : Str)) = false:=by decide) (he:starEach (e :: es) X.env = (false,eval e X.env) :: starEach es X.env:=by rfl) (hpl:(backTo pos (starEach es X.env)).any (·.1) = false:=by rfl) :
    PE X (.Call (.Name x p) (e :: es) [] pos) (tCall sp dvs E t):=by
  intro pins s σ H Q I h
  refine wpAny_Call_Name_kw (ld_glob I hg hm ?_ hdb)
  refine PySem.W.callWith_K (h₀:=X.base) I.ok.mod.kin hk (thn (ha pos pins s σ H _ I h) fun us s1 ⟨vs,H1,I1,r,q⟩=>⟨I1.kIn,?_⟩) he hpl
  exact run_fn F hr hb hd hx I1 r q
end
section
variable {X:Cx} {CX:CXT} {k:Nat} {f C:Addr} {fd:FuncData} {ps ks:List Str} {sp:Sp} {E:XK} {x m:Str} {p pos apos kpos:Pos} {e o:Expr} {es:List Expr} {kws:List Keyword} {te ta:TE} {t tk:TA} {nm:Option Str}
variable {g:List Value→List Value→List Value} {gV:List V→List V→List V}
end
structure FnScope (N P:List Str) (sc:Scope):Prop where
  kind:sc.kind = .function
  co:sc.isCoroutine = false
  gen:sc.isGenerator = false
  nd:N.Nodup
  pre:N.take P.length = P
  par:∀ x∈P,sc.names.lookup x = some .local∨sc.names.lookup x = some .cell
  nofree:∀ y∈sc.names,y.2≠.free
theorem bindL_out {kindOf:Str→Option NameKind} {x:Str}:∀ {binds:List (Str × Value)} {m:Str→Option Value},(∀ v,(x,v) ∉ binds)→bindL kindOf binds m x = m x
  | [],_,_=>rfl
  | (n,v) :: r,m,h=>by
    unfold bindL
    rw [bindL_out fun w hw=>h w (List.mem_cons_of_mem _ hw)]
    split
    · have:x≠n:=by rintro rfl; exact h v List.mem_cons_self
      simp [this]
    · rfl
theorem bindC_out {kindOf:Str→Option NameKind} {x:Str}:∀ {binds:List (Str × Value)} {m:Str→Option Value},(∀ v,(x,v) ∉ binds)→bindC kindOf binds m x = m x
  | [],_,_=>rfl
  | (n,v) :: r,m,h=>by
    unfold bindC
    rw [bindC_out fun w hw=>h w (List.mem_cons_of_mem _ hw)]
    split
    · rfl
    · have:x≠n:=by rintro rfl; exact h v List.mem_cons_self
      simp [this]
theorem bindL_get {kindOf:Str→Option NameKind} {x:Str} {v:Value}:∀ {P:List Str} {vs:List Value} {i:Nat} {m:Str→Option Value},P.Nodup→P[i]? = some x→vs[i]? = some v→kindOf x = some .local →
    bindL kindOf (P.zip vs) m x = some v
  | [],_,_,_,_,h,_,_=>by simp at h
  | _ :: _,[],_,_,_,_,h,_=>by simp at h
  | p :: P,w :: vs,0,m,nd,h1,h2,hk=>by
    simp at h1 h2; subst h1; subst h2
    show bindL kindOf ((p,w) :: P.zip vs) m p = _
    unfold bindL
    rw [bindL_out fun v hv=>(List.nodup_cons.mp nd).1 (List.of_mem_zip hv).1,if_pos hk]
    simp
  | p :: P,w :: vs,i + 1,m,nd,h1,h2,hk=>by
    show bindL kindOf ((p,w) :: P.zip vs) m x = _
    unfold bindL
    exact bindL_get (i:=i) (List.nodup_cons.mp nd).2 (by simpa using h1) (by simpa using h2) hk
theorem bindC_get {kindOf:Str→Option NameKind} {x:Str} {v:Value}:∀ {P:List Str} {vs:List Value} {i:Nat} {m:Str→Option Value},P.Nodup→P[i]? = some x→vs[i]? = some v→kindOf x≠some .local →
    bindC kindOf (P.zip vs) m x = some v
  | [],_,_,_,_,h,_,_=>by simp at h
  | _ :: _,[],_,_,_,_,h,_=>by simp at h
  | p :: P,w :: vs,0,m,nd,h1,h2,hk=>by
    simp at h1 h2; subst h1; subst h2
    show bindC kindOf ((p,w) :: P.zip vs) m p = _
    unfold bindC
    rw [bindC_out fun v hv=>(List.nodup_cons.mp nd).1 (List.of_mem_zip hv).1,if_neg hk]
    simp
  | p :: P,w :: vs,i + 1,m,nd,h1,h2,hk=>by
    show bindC kindOf ((p,w) :: P.zip vs) m x = _
    unfold bindC
    exact bindC_get (i:=i) (List.nodup_cons.mp nd).2 (by simpa using h1) (by simpa using h2) hk
def start (N:List Str) (vs:List V):St:=vs.map some ++ List.replicate (N.length - vs.length) none
def cxOf (CX:CXT) (P:Program) (w:World) (K:PySem.W.Frag) (mg:Str→Option Value) (base:Heap) (N:List Str) (qual:Str) (scope:Scope) (f:Addr) (cd:Value) (A:Around) (outer:List Env) (s:Shared) (H:Hp) (E:XK):Cx where
  prog:=P
  w:=w
  K:=K
  mg:=mg
  base:=base
  A:=A.deeper (envOfC qual scope s.heap.objs.size f cd)
  N:=N
  s₀:=s
  H₀:=H
  env:=envOfC qual scope s.heap.objs.size f cd
  outer:=outer
  stack:=envOfC qual scope s.heap.objs.size f cd :: outer
  ex:=[]
  calm:=true
  fn:=fun _=>true
  pn:=[]
  xe:=fun e s'=>wpAny (model P w) (A.deeper (envOfC qual scope s.heap.objs.size f cd)) (leaving (envOfC qual scope s.heap.objs.size f cd) e) (fun _ s''=>CX outer H s E e s'') (fun e' s''=>CX outer H s E e' s'') s'
theorem cell_has {sc:Scope} {n:Nat} {x:Str} (h:sc.names.lookup x = some .cell):∃ c,(cellsFrom n sc.names []).lookup x = some c:=by
  have q:=PySem.W.cellsFrom_some sc.names n [] (.inl h)
  exact Option.isSome_iff_exists.mp q
theorem inv_start {CX:CXT} {P:Program} {w:World} {K:PySem.W.Frag} {mg:Str→Option Value} {base:Heap} {N ps:List Str} {qual:Str} {scope:Scope} {f:Addr} {cd:Value} {A:Around} {outer:List Env} {s s1:Shared} {H:Hp} {E:XK} {us:List Value} {vs:List V}
    (S:FnScope N ps scope) (hd:A.handled = none) (e0:Env0 P w K mg base A outer s H) (hl:vs.length = ps.length) (r:Vals vs us)
    (x:InCallC s s.heap.objs.size (bindL (envOfC qual scope s.heap.objs.size f cd).kindOf (ps.zip us) fun _=>none) (cellsFrom (s.heap.objs.size + 1) scope.names []) (bindC (envOfC qual scope s.heap.objs.size f cd).kindOf (ps.zip us) fun _=>none) s1) :
    Inv (cxOf CX P w K mg base N qual scope f cd A outer s H E) [] (start N vs) H s1:=by
  have hpl:ps.length≤N.length:=by have:=congrArg List.length S.pre; rw [List.length_take] at this; omega
  obtain ⟨h1,tk,rfl,hk⟩:=x.done
  have noA:∀ b:Addr,b ∉ (cxOf CX P w K mg base N qual scope f cd A outer s H E).ex:=fun b z=>absurd (show b∈([]:List Addr) from z) (by simp)
  refine ⟨⟨e0.mod,S.kind,rfl,rfl,Nat.le_refl _,fun y z c h1 h2=>?_,fun y hy=>?_,fun y c _ h=>?_,fun _=>hd,Around.frames_deeper e0.frames,.inr ⟨rfl,rfl⟩,fun b z=>absurd z (noA b),e0.bs,e0.bsz,fun b _ _=>noA b,fun b z=>absurd z (noA b),e0.funs,e0.frf⟩,
    rfl,e0.bare,Un.kept hk,⟨_,x.toInCall.ns,fun i y v h1 h2 h3=>?_⟩,fun y c h=>⟨_,x.cell y c h⟩,e0.hok.fresh (Nat.le_refl _),fun y c h=>?_,fun p hp=>absurd (show p∈([]:List (Addr × Obj)) from hp) (by simp),e0.hok.kept hk,?_⟩
  · exact name_of_addr x.apart (PySem.mem_of_lookup h1) (PySem.mem_of_lookup h2)
  · have hy:scope.names.lookup y = some .cell∨scope.names.lookup y = some .free:=hy
    rcases hy with hy | hy
    · exact cell_has hy
    · exact absurd rfl (S.nofree _ (PySem.mem_of_lookup hy))
  · exact Nat.le_of_lt (x.above y c (PySem.mem_of_lookup h))
  · have hi:i < vs.length:=by
      unfold start at h2
      by_cases hi:i < vs.length
      · exact hi
      · rw [List.getElem?_append_right (by simpa using hi)] at h2
        rw [List.getElem?_replicate] at h2
        split at h2 <;> cases h2
    have ha:vs[i]? = some v:=by
      unfold start at h2
      rw [List.getElem?_append_left (by simpa using hi),List.getElem?_map] at h2
      cases e:vs[i]? with
      | none=>rw [e] at h2; cases h2
      | some a=>rw [e] at h2; cases h2; rfl
    obtain ⟨u,hu,rv⟩:=r.get ha
    have hp:ps[i]? = some y:=by
      rw [← S.pre,List.getElem?_take_of_lt (by omega)]; exact h1
    have ndP:ps.Nodup:=by rw [← S.pre]; exact S.nd.sublist (List.take_sublist _ _)
    refine ⟨u,rv,?_⟩
    rcases S.par y (List.mem_of_getElem? hp) with k | k
    · exact .inl ⟨k,bindL_get ndP hp hu k⟩
    · obtain ⟨c,e⟩:=cell_has (n:=s.heap.objs.size + 1) k
      refine .inr ⟨.inl k,c,e,?_⟩
      have q:=x.cell y c e
      rw [bindC_get ndP hp hu (by show scope.names.lookup y≠_; rw [k]; decide)] at q
      exact q
  · exact e0.hok.fresh (Nat.le_of_lt (x.above y c (PySem.mem_of_lookup h)))
  · unfold start
    show _ = N.length
    rw [List.length_append,List.length_map,List.length_replicate]
    omega
theorem fn_of {CX:CXT} {P:Program} {w:World} {K:PySem.W.Frag} {mg:Str→Option Value} {base:Heap} {k:Nat} {f:Addr} {name qual:Str} {params:Arguments} {body:List Stmt} {scope:Scope} {dV kV doc pm cdv ct oc:Value} {an od:Option Addr}
    {osl:Array (Option Value)} {N ps:List Str} {sp:Sp} (lk:K.lookup f = some ⟨oc,od,.func (PySem.W.fnOf name qual params body scope dV kV doc pm an cdv ct),osl⟩) (hcd:PySem.W.codeIn K cdv qual = true) (S:FnScope N ps scope)
    (len:∀ vs H Q E,sp vs H Q E→vs.length = ps.length)
    (hbody:∀ (A:Around) (outer:List Env) (s:Shared) (H:Hp) (vs:List V) (Q:VK) (E:XK),Room k (A.deeper (envOfC qual scope s.heap.objs.size f cdv))→sp vs H Q E →
      ∃ t,PSs (cxOf CX P w K mg base N qual scope f cdv A outer s H E) body t∧t { nx:=fun _ H'=>Q .non H',rt:=Q } (start N vs) H) :
    FnOk P w K mg base CX (k + 1) f (PySem.W.fnOf name qual params body scope dV kV doc pm an cdv ct) ps sp:=by
  refine ⟨len,fun A outer s H args us vs Q E hr e0 hb r hsp=>?_⟩
  have hl:=len _ _ _ _ hsp
  have KX:K.In s.heap:=e0.mod.kin.keeps fun b o e=>(e0.bs b o e).1
  have lim:s.heap.NoLimit:=e0.mod.nolimit.keeps fun b o e=>(e0.bs b o e).1
  have hkind:∀ y∈ps.zip us,scope.names.lookup y.1 = some .local∨(scope.names.lookup y.1 = some .cell∧((cellsFrom (s.heap.objs.size + 1) scope.names []).lookup y.1).isSome = true):=fun ⟨n,v⟩ hy=>by
    rcases S.par n (List.of_mem_zip hy).1 with q | q
    · exact .inl q
    · exact .inr ⟨q,PySem.W.cellsFrom_some _ _ _ (.inl q)⟩
  refine codeAny_call_function hr.depth (KX _ _ lk) rfl S.co S.gen rfl (PySem.W.codeRec_of KX hcd) (hb _ _ _ _ ?_)
  refine wpAny_newFunctionEnv_cells S.kind hkind fun env he s1 x=>?_
  subst he
  refine ⟨lim.keeps x.toInCall.keep,codeAny_func ?_⟩
  obtain ⟨t,ht,hq⟩:=hbody A outer s H vs Q E (hr.deeper _) hsp
  have I:Inv (cxOf CX P w K mg base N qual scope f cdv A outer s H E) [] (start N vs) H s1:=inv_start S hr.hd e0 hl r x
  refine wpAny_mono (ht [] s1 (start N vs) H _ I hq) (fun fl s' hs=>?_) fun e s' hs=>hs
  have fin:∀ {σ':St} {H':Hp} {v:V} {u:Value},Inv (cxOf CX P w K mg base N qual scope f cdv A outer s H E) [] σ' H' s'→RelV v u→Q v H'→CE outer P w H s Q u s' :=
    fun {σ' H' v u} J rv q=>⟨v,H',J.os,J.bare,J.base,J.hok,rv,q⟩
  cases fl with
  | ret u =>
    obtain ⟨v,σ',H',J,rv,q⟩:=hs
    exact fin J rv q
  | next =>
    obtain ⟨σ',H',J,q⟩:=hs
    exact fin (v:=V.non) (u:=Value.none) J rfl q
  | brk =>
    obtain ⟨_,_,_,q⟩:=hs
    exact False.elim q
  | cont =>
    obtain ⟨_,_,_,q⟩:=hs
    exact False.elim q
end L2
namespace L2
open PySem PySem.Spec PyProof.Rows
section
variable {X:Cx} {x:Str} {p pos:Pos} {e:Expr} {es:List Expr} {t:TA} {id T:String} {r:List V→Hp→VK→Prop}
def tCB (r:List V→Hp→VK→Prop) (t:TA):TE:=fun σ H Q=>t σ H fun vs H1=>r vs H1 Q
theorem pe_callB (hc:CallR X (.builtin id) r) (hg:Gl X x) (hm:X.mg x = none) (hv:bootBuiltins x = some (.builtin id)) (ha:PA X (e :: es) t) (hn:x ≠ "__name__" := by decide) (hdb:(x == ("__debug__" : Str)) = false:=by decide)
    (he:starEach (e :: es) X.env = (false,eval e X.env) :: starEach es X.env:=by rfl) (hpl:(backTo pos (starEach es X.env)).any (·.1) = false:=by rfl):PE X (.Call (.Name x p) (e :: es) [] pos) (tCB r t):=by
  intro pins s σ H Q I h
  refine wpAny_Call_Name_kw (ld_blt I hg hm hv ?_ hn hdb)
  exact PyProof.Rows.callWith_builtin1 (thn (ha pos pins s σ H _ I h) fun us s1 ⟨vs,H1,I1,r1,q1⟩=>hc pins s1 σ H1 vs us Q I1 r1 q1) he hpl
theorem pe_callTy (hc:CallR X (.type T) r) (hg:Gl X x) (hm:X.mg x = none) (hv:bootBuiltins x = some (.type T)) (ha:PA X (e :: es) t) (hn:x ≠ "__name__" := by decide) (hdb:(x == ("__debug__" : Str)) = false:=by decide)
    (he:starEach (e :: es) X.env = (false,eval e X.env) :: starEach es X.env:=by rfl) (hpl:(backTo pos (starEach es X.env)).any (·.1) = false:=by rfl):PE X (.Call (.Name x p) (e :: es) [] pos) (tCB r t):=by
  intro pins s σ H Q I h
  refine wpAny_Call_Name_kw (ld_blt I hg hm hv ?_ hn hdb)
  exact PyProof.Rows.callWith_type1 (thn (ha pos pins s σ H _ I h) fun us s1 ⟨vs,H1,I1,r1,q1⟩=>hc pins s1 σ H1 vs us Q I1 r1 q1) he hpl
end
end L2
namespace HT
open PySem PyProof.Rows
section
open PySem.SeqAt
open PySem.AutoSeq1 (wpAny_loadPart')
open PySem.MeetsSeq PySem.MeetsSeq2 PySem.MeetsSeq3
end
section
variable {prog:Program} {w:World} {A:Around} {E:Value→Shared→Prop} {s:Shared}
theorem cat_tup {t b:Addr} {vs ws:List Value} {Q:Value→Shared→Prop} (ht:IsTup s.heap t vs.toArray) (hb:IsTup s.heap b ws.toArray) (hv:vs≠[])
    (h1:ws = []→Q (.ref t) s) (h2:ws≠[]→Q (.ref s.heap.objs.size) { s with heap:=s.heap.push { cls:=.type "tuple",data:=.seq (vs ++ ws).toArray } })
    (hsz:vs.length + ws.length≤sizeLine):wpAny (model prog w) A (binaryOp .Add (.ref t) (.ref b)) Q E s:=by
  obtain ⟨⟨cls,dd,data,sl⟩,ho,hc,n,hd⟩:=id ht
  obtain ⟨⟨cls2,dd2,data2,sl2⟩,ho2,hc2,n2,hd2⟩:=id hb
  simp only at hc hd hc2 hd2
  subst hc hd hc2 hd2
  have e:vs.toArray ++ ws.toArray = (vs ++ ws).toArray:=by simp
  by_cases hw:ws = []
  · exact concat_meets ⟨_,ho,rfl⟩ ⟨_,ho2,rfl⟩ noFill_tuple_add seq_tuple_add PySem.F.slot_tuple_add PySem.F.entry_tuple_add (PySem.F.args_tuple_add_2 _ _)
      (tuple_addW1 t b vs.toArray ws.toArray n n2 dd dd2 sl sl2 (by simpa using hv) (by simp [hw])) ⟨ho,ho2,h1 hw⟩
  · refine concat_meets ⟨_,ho,rfl⟩ ⟨_,ho2,rfl⟩ noFill_tuple_add seq_tuple_add PySem.F.slot_tuple_add PySem.F.entry_tuple_add (PySem.F.args_tuple_add_2 _ _)
      (tuple_addW2 t b vs.toArray ws.toArray n n2 dd dd2 sl sl2 (by simpa using hv) (by simpa using hw) (by rw [List.size_toArray,List.size_toArray]; exact hsz)) ⟨ho,ho2,?_⟩
    rw [e]
    exact h2 hw
def sIx (n d:Nat):Option Int→Nat
  | none=>d
  | some v=>if v < 0 then (v + (n:Int)).toNat else min v.toNat n
theorem sIx_nat (n d k:Nat):sIx n d (some (k:Int)) = min k n:=by
  show (if (k:Int) < 0 then ((k:Int) + (n:Int)).toNat else min (k:Int).toNat n) = min k n
  rw [if_neg (by omega),Int.toNat_natCast]
theorem sIx_le (n d:Nat) (hd:d≤n) (o:Option Int):sIx n d o≤n:=by
  cases o with
  | none=>exact hd
  | some v =>
    show (if v < 0 then (v + (n:Int)).toNat else min v.toNat n)≤n
    by_cases hv:v < 0
    · rw [if_pos hv]; omega
    · rw [if_neg hv]; exact Nat.min_le_right _ _
end
end HT
namespace L2
open PySem PySem.Spec PyProof.Rows
abbrev TO:=St→Hp→(Option Int→Hp→Prop)→Prop
def PO (X:Cx) (e:Option Expr) (t:TO):Prop :=
  ∀ (pins:List (Addr × Obj)) (s:Shared) (σ:St) (H:Hp) (Q:Option Int→Hp→Prop),Inv X pins σ H s→t σ H Q →
    wpAny (model X.prog X.w) X.A (evalPart e X.env) (fun u s'=>∃ o H',Inv X pins σ H' s'∧IsPart u o∧Q o H') X.xe s
def tNoPart:TO:=fun _ H Q=>Q none H
def tPart (t:TE):TO:=fun σ H Q=>t σ H fun x H1=>∃ i,x = .int i∧Q (some i) H1
theorem intsAre_of {ns:List Int}:∀ {us:List Value},Vals (ns.map V.int) us→IntsAre us ns:=by
  induction ns with
  | nil=>intro us r; rw [List.map_nil] at r; cases r; exact .nil
  | cons n ns ih =>
    intro us r
    rw [List.map_cons] at r
    cases r with
    | cons r1 r2 =>
      obtain ⟨t,e⟩:=r1
      subst e
      exact .cons n t (ih r2)
section
variable {X:Cx} {e:Expr} {te:TE} {lo hi:Option Expr} {tl th:TO} {pos p2:Pos}
theorem po_none:PO X none tNoPart:=by
  intro pins s σ H Q I h
  rw [evalPart_none]
  exact wpAny_pure ⟨none,H,I,.none,h⟩
theorem po_some (h:PE X e te):PO X (some e) (tPart te):=by
  intro pins s σ H Q I hw
  rw [evalPart_some]
  refine thn (h pins s σ H _ I hw) fun u s1 ⟨x,H1,I1,r1,q1⟩=>?_
  obtain ⟨i,rfl,q⟩:=q1
  obtain ⟨t,rfl⟩:=r1
  exact ⟨some i,H1,I1,.int i t,q⟩
def SlR (X:Cx) (r:V→Option Int→Option Int→Hp→VK→Prop):Prop :=
  ∀ (pins:List (Addr × Obj)) (s:Shared) (σ:St) (H:Hp) (x:V) (v vl vu:Value) (lo hi:Option Int) (sl:Addr) (Q:VK),Inv X pins σ H s→RelV x v→s.heap.IsSliceOf sl vl vu .none→IsPart vl lo→IsPart vu hi→r x lo hi H Q →
    ∃ T id,typeLookup (.type T) "__getitem__" = pure (some (.builtin id))∧s.TypeIs v T∧wpAny (model X.prog X.w) X.A (getItem v (.ref sl)) (EP X pins σ Q) X.xe s
def cutV (xs:List V) (lo hi:Option Int):List V:=(xs.drop (HT.sIx xs.length 0 lo)).take (HT.sIx xs.length xs.length hi - HT.sIx xs.length 0 lo)
def rCatT (K:PySem.W.Frag):R2:=fun x y H Q=>∃ a b xs ys,x = .ref a∧y = .ref b∧SqT K H a xs∧SqT K H b ys∧xs≠[]∧xs.length + ys.length≤sizeLine ∧
  (ys = []→Q (.ref a) H)∧(ys≠[]→∀ p,H p = none→Q (.ref p) (upd H p (.tup (xs ++ ys))))
theorem Vals.nil_iff {xs:List V} {us:List Value} (r:Vals xs us):us = []↔xs = []:=by
  cases r with
  | nil=>simp
  | cons _ _=>simp
theorem op_catT:OpR X (binaryOp .Add) (rCatT X.K):=by
  intro pins s σ H x y v u Q I rx ry h
  obtain ⟨a,b,xs,ys,rfl,rfl,ha,hb,hx,hz,q1,q2⟩:=h
  cases rx
  cases ry
  obtain ⟨its,r1,p1,_⟩:=I.tuple ha
  obtain ⟨its2,r2,p2,_⟩:=I.tuple hb
  refine HT.cat_tup p1 p2 (fun z=>hx (r1.nil_iff.mp z)) (fun z=>⟨.ref a,H,I,rfl,q1 (r2.nil_iff.mp z)⟩) (fun z=>?_) (by rw [← r1.length,← r2.length]; exact hz)
  refine ⟨.ref s.heap.objs.size,_,I.laid (t':=s.toks) (o:=.tup (xs ++ ys)) (fun b ob q=>Heap.get?_push_of_some _ q) (Nat.le_refl _) ?_,rfl,q2 (fun w=>z (r2.nil_iff.mpr w)) _ (I.hok.fresh (Nat.le_refl _))⟩
  exact ⟨by rw [List.length_append]; exact hz,_,r1.append r2,IsTup.new _ _⟩
end
end L2
namespace L2
open PySem PySem.Spec PyProof.Rows
def ixN (n:Nat) (i:Int):Option Nat:=if 0≤i then (if i < n then some i.toNat else none) else if -(n:Int)≤i then some (i + n).toNat else none
def atI {α:Type} (xs:List α) (i:Int):Option α:=(ixN xs.length i).bind fun j=>xs[j]?
theorem ixN_seq {n:Nat} {i:Int} {j:Nat} (h:ixN n i = some j):seqIndex? i n = some j∧j < n∧-(n:Int)≤i∧i < n:=by
  unfold ixN at h
  by_cases h0:0≤i
  · rw [if_pos h0] at h
    by_cases h1:i < n
    · rw [if_pos h1] at h
      have e:i.toNat = j:=Option.some.inj h
      exact ⟨by rw [seqIndex_of h0 h1,e],by omega,by omega,h1⟩
    · rw [if_neg h1] at h; cases h
  · rw [if_neg h0] at h
    by_cases h1:-(n:Int)≤i
    · rw [if_pos h1] at h
      have e:(i + n).toNat = j:=Option.some.inj h
      exact ⟨by rw [seqIndex_neg (by omega) h1,e],by omega,h1,by omega⟩
    · rw [if_neg h1] at h; cases h
theorem atI_get {α:Type} {xs:List α} {i:Int} {v:α} (h:atI xs i = some v):∃ j,seqIndex? i xs.length = some j∧xs[j]? = some v∧j < xs.length∧-(xs.length:Int)≤i∧i < xs.length:=by
  unfold atI at h
  cases e:ixN xs.length i with
  | none=>rw [e] at h; cases h
  | some j =>
    rw [e] at h
    obtain ⟨h1,h2,h3,h4⟩:=ixN_seq e
    exact ⟨j,h1,h,h2,h3,h4⟩
theorem atI_nat {α:Type} {xs:List α} {j:Nat} {v:α} (h:xs[j]? = some v):atI xs (j:Int) = some v:=by
  have hj:j < xs.length:=(List.getElem?_eq_some_iff.mp h).1
  have e:ixN xs.length (j:Int) = some j:=by
    unfold ixN
    rw [if_pos (by omega),if_pos (by omega)]; simp
  unfold atI; rw [e]; exact h
theorem atI_last {α:Type} (xs:List α) (v:α):atI (xs ++ [v]) (-1) = some v:=by
  have hl:(xs ++ [v]).length = xs.length + 1:=by simp
  have e:ixN (xs ++ [v]).length (-1) = some xs.length:=by
    unfold ixN
    rw [hl,if_neg (by decide),if_pos (by omega)]
    congr 1
    omega
  unfold atI
  rw [e]
  show (xs ++ [v])[xs.length]? = some v
  simp
def PlainIx (b:Expr):Prop:=∀ o i,subscripted b false o i = operate [o,i] (getItem o i)
def IxR (X:Cx) (r:R2):Prop :=
  ∀ (value slice:Expr) (pins:List (Addr × Obj)) (s:Shared) (σ:St) (H:Hp) (x y:V) (v u:Value) (Q:VK),Inv X pins σ H s→RelV x v→RelV y u→r x y H Q →
    subscripted slice false v u = operate [v,u] (getItem v u)→wpAny (model X.prog X.w) X.A (subscriptTail value slice v u) (EP X pins σ Q) X.xe s
def MtR (X:Cx) (id:String) (r:V→List V→Hp→VK→Prop):Prop :=
  ∀ (pins:List (Addr × Obj)) (s:Shared) (σ:St) (H:Hp) (x:V) (xs:List V) (v:Value) (us:List Value) (Q:VK),Inv X pins σ H s→RelV x v→Vals xs us→r x xs H Q →
    wpAny (model X.prog X.w) X.A (call (.builtin id) (v :: us)) (EP X pins σ Q) X.xe s
section
variable {X:Cx} {a b:Expr} {ta tb:TE} {pos:Pos}
theorem pe_ix {r:R2} (hr:IxR X r) (ha:PE X a ta) (hb:PE X b tb) (hs:PlainIx b):PE X (.Subscript a b pos) (tOp r ta tb):=by
  intro pins s σ H Q I h
  exact Subscript_ (binT ha hb I h fun v u s2 x y H2 I2 rx ry q=>hr a b pins s2 σ H2 x y v u Q I2 rx ry q (hs _ _))
def rIxL (K:PySem.W.Frag):R2:=fun x y H Q=>∃ p xs i v,x = .ref p∧y = .int i∧SqL K H p xs∧atI xs i = some v∧Q v H
def rIxT (K:PySem.W.Frag):R2:=fun x y H Q=>∃ p xs i v,x = .ref p∧y = .int i∧SqT K H p xs∧atI xs i = some v∧Q v H
def rIxS:R2:=fun x y H Q=>∃ z i c,x = .str z∧y = .int i∧z.length≤sizeLine∧atI z.cps.toList i = some c∧Q (.str ⟨#[c]⟩) H
theorem ix_list:IxR X (rIxL X.K):=by
  intro value slice pins s σ H x y v u Q I rx ry h hs
  obtain ⟨p,xs,i,z,rfl,rfl,hq,he,q⟩:=h
  cases rx
  obtain ⟨t,rfl⟩:=ry
  obtain ⟨its,r,pl,hz⟩:=I.list hq
  obtain ⟨j,h1,h2,h3,h4,h5⟩:=atI_get he
  obtain ⟨w,ew,rw'⟩:=r.get h2
  have hl:=r.length
  have hn:=line63
  have fin:EP X pins σ Q w s:=⟨z,H,I,rw',q⟩
  by_cases h0:0≤i
  · have hj:i.toNat = j:=by
      rw [seqIndex_of h0 h5] at h1
      exact Option.some.inj h1
    exact item_listR pl.isList h0 (by omega) (by rw [hj]; simpa using ew) fin hs
  · have hj:(i + (its.toArray.size:Int)).toNat = j:=by
      rw [seqIndex_neg (by omega) h4] at h1
      rw [List.size_toArray,← hl]
      exact Option.some.inj h1
    exact subscriptTail_builtinR (x:=w) pl.isList.typeIs slot_list_getitem.lookup
      (wpAny_getItem_list_neg (Q:=fun r s'=>r = w∧EP X pins σ Q r s') pl.isList (by omega) (by rw [List.size_toArray] <;> omega) (by omega) (by rw [hj]; simpa using ew) ⟨rfl,fin⟩) hs
theorem ix_tup:IxR X (rIxT X.K):=by
  intro value slice pins s σ H x y v u Q I rx ry h hs
  obtain ⟨p,xs,i,z,rfl,rfl,hq,he,q⟩:=h
  cases rx
  obtain ⟨t,rfl⟩:=ry
  obtain ⟨its,r,pl,hz⟩:=I.tuple hq
  obtain ⟨j,h1,h2,h3,h4,h5⟩:=atI_get he
  obtain ⟨w,ew,rw'⟩:=r.get h2
  have hl:=r.length
  have hn:=line63
  have fin:EP X pins σ Q w s:=⟨z,H,I,rw',q⟩
  exact subscriptTail_builtinR (x:=w) pl.typeIs slot_tuple_getitem.lookup
    (getItem_tuple (j:=j) (Q:=fun r s'=>r = w∧EP X pins σ Q r s') pl (by omega) (by omega) (by rw [List.size_toArray,← hl]; exact h1) (by simpa using ew) ⟨rfl,fin⟩) hs
theorem ix_str:IxR X rIxS:=by
  intro value slice pins s σ H x y v u Q I rx ry h hs
  obtain ⟨z,i,c,rfl,rfl,hz,he,q⟩:=h
  obtain ⟨t,rfl⟩:=rx
  obtain ⟨t',rfl⟩:=ry
  obtain ⟨j,h1,h2,h3,h4,h5⟩:=atI_get he
  have hl:z.cps.toList.length = z.length:=by simp [Str.length]
  rw [hl] at h1 h4 h5
  have hn:=line63
  exact tail_any (typeIs_str s z t) slot_str_getitem.lookup (getItem_str (c:=c) (by
    have e1:decide (i < -(2 ^ 63:Int)) = false:=decide_eq_false (by omega)
    have e2:decide (i ≥ 2 ^ 63) = false:=decide_eq_false (by omega)
    rw [e1,e2,Bool.or_false]) (by rw [h1]; simpa using h2) ⟨.str ⟨#[c]⟩,H,I.tok _,⟨_,rfl⟩,q⟩) hs
theorem Inv.lst {pins:List (Addr × Obj)} {σ:St} {H:Hp} {s:Shared} {p:Addr} {xs:List V} (I:Inv X pins σ H s) (h:H p = some (.lst xs)) :
    ∃ (its:List Value) (n:Nat),Vals xs its∧s.heap.get? p = some { cls:=.type "list",data:=.seq its.toArray n }∧xs.length≤sizeLine:=by
  obtain ⟨z,its,n,r,e⟩:=I.hok p _ h
  exact ⟨its,n,r,e,z⟩
def rSlL (K:PySem.W.Frag):V→Option Int→Option Int→Hp→VK→Prop:=fun x lo hi H Q=>∃ a xs,x = .ref a∧SqL K H a xs∧∀ p,H p = none→Q (.ref p) (upd H p (.lst (cutV xs lo hi)))
def flatV:V→Bool
  | .non=>true
  | .bl _=>true
  | .int _=>true
  | .str _=>true
  | _=>false
def eqV:V→V→Bool
  | .non,.non=>true
  | .bl a,.bl b=>a == b
  | .bl a,.int b=>(if a then 1 else 0) == b
  | .int a,.bl b=>a == (if b then 1 else 0)
  | .int a,.int b=>a == b
  | .str a,.str b=>a == b
  | _,_=>false
theorem eqAt_V {A:Around} {s:Shared} {y x:V} {u v:Value} (ry:RelV y u) (rx:RelV x v) (fy:flatV y = true) (fx:flatV x = true):SeqAt.EqAt A s u v (eqV y x):=by
  cases y with
  | non =>
    cases ry
    cases x with
    | non=>cases rx; exact SeqAt.EqAt.same _
    | bl b=>cases rx; exact SeqAt.EqAt.none_bool b
    | int b=>obtain ⟨t,rfl⟩:=rx; exact SeqAt.EqAt.none_int b t
    | str b=>obtain ⟨t,rfl⟩:=rx; exact SeqAt.EqAt.none_str b t
    | _=>exact absurd (show false = true from fx) Bool.false_ne_true
  | bl a =>
    cases ry
    cases x with
    | non=>cases rx; exact SeqAt.EqAt.bool_none a
    | bl b=>cases rx; exact SeqAt.EqAt.bool_bool a b
    | int b=>obtain ⟨t,rfl⟩:=rx; exact SeqAt.EqAt.bool_int a b t
    | str b=>obtain ⟨t,rfl⟩:=rx; exact SeqAt.EqAt.bool_str a b t
    | _=>exact absurd (show false = true from fx) Bool.false_ne_true
  | int a =>
    obtain ⟨t',rfl⟩:=ry
    cases x with
    | non=>cases rx; exact SeqAt.EqAt.int_none a t'
    | bl b=>cases rx; exact SeqAt.EqAt.int_bool a t' b
    | int b=>obtain ⟨t,rfl⟩:=rx; exact SeqAt.EqAt.int_int a t' b t
    | str b=>obtain ⟨t,rfl⟩:=rx; exact SeqAt.EqAt.int_str a t' b t
    | _=>exact absurd (show false = true from fx) Bool.false_ne_true
  | str a =>
    obtain ⟨t',rfl⟩:=ry
    cases x with
    | non=>cases rx; exact SeqAt.EqAt.str_none a t'
    | bl b=>cases rx; exact SeqAt.EqAt.str_bool a t' b
    | int b=>obtain ⟨t,rfl⟩:=rx; exact SeqAt.EqAt.str_int a t' b t
    | str b=>obtain ⟨t,rfl⟩:=rx; exact SeqAt.EqAt.str_str a t' b t
    | _=>exact absurd (show false = true from fx) Bool.false_ne_true
  | _=>exact absurd (show false = true from fy) Bool.false_ne_true
def eqU (x:V) (u:Value):Bool:=match u with
  | .none=>eqV .non x
  | .bool b=>eqV (.bl b) x
  | .int i _=>eqV (.int i) x
  | .str z _=>eqV (.str z) x
  | _=>false
theorem eqU_of {x y:V} {u:Value} (r:RelV y u) (f:flatV y = true):eqU x u = eqV y x:=by
  cases y with
  | non=>cases r; rfl
  | bl b=>cases r; rfl
  | int i=>obtain ⟨t,rfl⟩:=r; rfl
  | str z=>obtain ⟨t,rfl⟩:=r; rfl
  | _=>exact absurd (show false = true from f) Bool.false_ne_true
theorem any_eqU {x:V}:∀ {xs:List V} {us:List Value},Vals xs us→xs.all flatV = true→us.any (eqU x) = xs.any fun y=>eqV y x
  | _,_,.nil,_=>rfl
  | y :: xs,u :: us,.cons r t,f=>by
    rw [List.all_cons,Bool.and_eq_true] at f
    rw [List.any_cons,List.any_cons,eqU_of r f.1,any_eqU t f.2]
theorem mem_eqAt {A:Around} {s:Shared} {x:V} {v:Value} (rx:RelV x v) (fx:flatV x = true):∀ {xs:List V} {us:List Value},Vals xs us→xs.all flatV = true→∀ u∈us,SeqAt.EqAt A s u v (eqU x u)
  | _,_,.nil,_=>fun u hu=>by cases hu
  | y :: xs,u :: us,.cons r t,f=>fun u' hu=>by
    rw [List.all_cons,Bool.and_eq_true] at f
    rcases List.mem_cons.mp hu with rfl | hu
    · rw [eqU_of r f.1]; exact eqAt_V r rx f.1 fx
    · exact mem_eqAt rx fx t f.2 u' hu
def inV (x:V) (xs:List V):Bool:=xs.any fun y=>eqV y x
def rIn (K:PySem.W.Frag) (neg:Bool):R2:=fun x y H Q=>∃ p xs,y = .ref p∧(SqL K H p xs∨SqT K H p xs)∧flatV x = true∧xs.all flatV = true∧Q (.bl (if neg then !inV x xs else inV x xs)) H
theorem op_in_seq:OpR X (compareOp .In) (rIn X.K false):=by
  intro pins s σ H x y v u Q I rx ry h
  obtain ⟨p,xs,rfl,hq,fx,fs,q⟩:=h
  cases ry
  rcases hq with hq | hq
  · obtain ⟨its,r,pl,hz⟩:=I.list hq
    refine SeqAt.in_listAt (eqU x) pl.isList (fun w hw=>mem_eqAt rx fx r fs w (by simpa using hw)) ⟨.bl _,H,I,rfl,?_⟩
    rw [show its.toArray.any (eqU x) = its.any (eqU x) by simp,any_eqU r fs]
    exact q
  · obtain ⟨its,r,pl,hz⟩:=I.tuple hq
    refine SeqAt.in_tupleAt (eqU x) pl (fun w hw=>mem_eqAt rx fx r fs w (by simpa using hw)) ⟨.bl _,H,I,rfl,?_⟩
    rw [show its.toArray.any (eqU x) = its.any (eqU x) by simp,any_eqU r fs]
    exact q
theorem call_len_seq:CallR X (.builtin "len") (fun xs H Q=>∃ p ys,xs = [.ref p]∧(SqL X.K H p ys∨SqT X.K H p ys)∧Q (.int ys.length) H):=by
  intro pins s σ H xs us Q I r h
  obtain ⟨p,ys,rfl,hq,q⟩:=h
  obtain ⟨u,rfl,rx⟩:=vals1 r
  cases rx
  have hn:=line63
  rcases hq with hq | hq
  · obtain ⟨its,r',pl,hz⟩:=I.list hq
    have hlen:=r'.length
    exact Calls.call_len_list pl.isList (by simp only [List.size_toArray] <;> omega) ⟨.int ys.length,H,I.tok _,⟨s.toks + 1,by rw [List.size_toArray,hlen]⟩,q⟩
  · obtain ⟨its,r',pl,hz⟩:=I.tuple hq
    have hlen:=r'.length
    exact len_tuple pl (by simp only [List.size_toArray] <;> omega) ⟨.int ys.length,H,I.tok _,⟨s.toks + 1,by rw [List.size_toArray,hlen]⟩,q⟩
theorem call_len_str:CallR X (.builtin "len") (fun xs H Q=>∃ z,xs = [.str z]∧z.length≤sizeLine∧Q (.int z.length) H):=by
  intro pins s σ H xs us Q I r h
  obtain ⟨z,rfl,hz,q⟩:=h
  obtain ⟨u,rfl,t,rfl⟩:=vals1 r
  have hn:=line63
  exact len_str (by omega) ⟨.int z.length,H,I.tok _,⟨_,rfl⟩,q⟩
theorem call_tuple_of:CallR X (.type "tuple") (fun xs H Q=>∃ p ys,xs = [.ref p]∧((SqL X.K H p ys∧∀ l,H l = none→Q (.ref l) (upd H l (.tup ys)))∨(SqT X.K H p ys∧Q (.ref p) H))):=by
  intro pins s σ H xs us Q I r h
  obtain ⟨p,ys,rfl,h⟩:=h
  obtain ⟨u,rfl,rx⟩:=vals1 r
  cases rx
  rcases h with ⟨hq,q⟩ | ⟨hq,q⟩
  · obtain ⟨its,r',pl,hz⟩:=I.list hq
    have hlen:=r'.length
    refine call_tuple_list pl.isList (fun h' kp=>?_) (by simp only [List.size_toArray] <;> omega)
    have I1:Inv X pins σ H { s with heap:=h' }:=I.kept (t':=s.toks) kp
    have I2:Inv X pins σ (upd H h'.objs.size (.tup ys)) { s with heap:=h'.push { cls:=.type "tuple",data:=.seq its.toArray } } :=
      I1.laid (t':=s.toks) (fun b o e=>Heap.get?_push_of_some _ e) (Nat.le_refl _) (show ObjOk X.prog X.w _ _ _ (.tup ys) from ⟨hz,its,r',IsTup.new _ _⟩)
    exact ⟨.ref h'.objs.size,_,I2,rfl,q _ (I1.hok.fresh (Nat.le_refl _))⟩
  · obtain ⟨its,r',pl,hz⟩:=I.tuple hq
    exact call_tuple_same pl ⟨.ref p,H,I,rfl,q⟩
def tyV (K:PySem.W.Frag) (T:String) (x:V) (H:Hp):Prop:=match x with
  | .str _=>T = "str"
  | .int _=>T = "int"
  | .ref p=>(T = "list" ∧ ∃ xs,SqL K H p xs)∨(T = "tuple" ∧ ∃ o,K.lookup p = some o∧o.cls = .type "tuple" ∧ o.dict = none) ∨
      (T = "dict" ∧ ((∃ kvs,H p = some (.dK kvs))∨∃ kvs,H p = some (.dT kvs)))∨(T = "set" ∧ ∃ S n,H p = some (.set S n))
  | _=>False
theorem tyV_is {pins:List (Addr × Obj)} {σ:St} {H:Hp} {s:Shared} {T:String} {x:V} {v:Value} (I:Inv X pins σ H s) (r:RelV x v) (ty:tyV X.K T x H) :
    s.TypeIs v T∧∀ a,v = .ref a→∃ ob,s.heap.get? a = some ob∧ob.dict = none:=by
  cases x with
  | str z =>
    obtain ⟨t,rfl⟩:=r
    cases (show T = "str" from ty)
    exact ⟨typeIs_str s z t,fun _ e=>nomatch e⟩
  | int i =>
    obtain ⟨t,rfl⟩:=r
    cases (show T = "int" from ty)
    exact ⟨typeIs_int s i t,fun _ e=>nomatch e⟩
  | ref p =>
    cases r
    rcases ty with ⟨rfl,xs,hq⟩ | ⟨rfl,o,hk,hc,hd⟩ | ⟨rfl,hk⟩ | ⟨rfl,S,n,hk⟩
    · obtain ⟨its,_,pl,_⟩:=I.list hq
      refine ⟨pl.isList.typeIs,fun a e=>?_⟩
      cases e
      obtain ⟨o,n,e,c,hd,_⟩:=pl
      exact ⟨o,e,hd⟩
    · refine ⟨⟨o,I.kIn p o hk,hc⟩,fun a e=>?_⟩
      cases e
      exact ⟨o,I.kIn _ o hk,hd⟩
    · have z:∃ o,s.heap.get? p = some o∧o.ExactDict:=by
        rcases hk with ⟨kvs,hk⟩ | ⟨kvs,hk⟩
        · obtain ⟨_,_,_,_,o,_,_,e,ex,_⟩:=I.hok p _ hk
          exact ⟨o,e,ex⟩
        · obtain ⟨_,_,_,_,o,_,_,e,ex,_⟩:=I.hok p _ hk
          exact ⟨o,e,ex⟩
      obtain ⟨o,e,ex⟩:=z
      refine ⟨⟨o,e,ex.1⟩,fun a e2=>?_⟩
      cases e2
      exact ⟨o,e,ex.2.1⟩
    · obtain ⟨o,_,_,_,e,ex,_⟩:=I.hok p _ hk
      refine ⟨⟨o,e,ex.1⟩,fun a e2=>?_⟩
      cases e2
      exact ⟨o,e,ex.2.1⟩
  | _=>exact False.elim ty
def tBM0 (K:PySem.W.Frag) (T:String) (r:V→List V→Hp→VK→Prop) (to:TE):TE:=fun σ H Q=>to σ H fun x H1=>tyV K T x H1∧r x [] H1 Q
def tBM (K:PySem.W.Frag) (T:String) (r:V→List V→Hp→VK→Prop) (to:TE) (t:TA):TE:=fun σ H Q=>to σ H fun x H1=>tyV K T x H1∧t σ H1 fun xs H2=>r x xs H2 Q
variable {o e:Expr} {es:List Expr} {to:TE} {t:TA} {name:Str} {apos cpos:Pos} {T id:String} {r:V→List V→Hp→VK→Prop}
theorem pe_bm0 (pa:PlainAttrs T) (slot:Slot T name id) (hty:typeOf (.builtin id) = pure (.type "method_descriptor")) (hm:MtR X id r) (ho:PE X o to)
    (hbase:attributeBase o name X.env (eval o X.env) = eval o X.env:=by rfl) (hline:(apos.endLine == cpos.line) = true:=by rfl):PE X (.Call (.Attribute o name apos) [] [] cpos) (tBM0 X.K T r to):=by
  intro pins s σ H Q I h
  refine wpAny_Call_method0_late hbase hline (thn (ho pins s σ H _ I h) fun v s1 ⟨x,H1,I1,r1,ty,q1⟩=>?_)
  obtain ⟨h1,h2⟩:=tyV_is I1 r1 ty
  exact ⟨T,id,pa,slot,hty,h1,h2,Calls.callWith_builtin rfl (PySem.evalArgs_none (hm pins s1 σ H1 x [] v [] Q I1 r1 .nil q1))⟩
theorem pe_bm (pa:PlainAttrs T) (slot:Slot T name id) (hty:typeOf (.builtin id) = pure (.type "method_descriptor")) (hm:MtR X id r) (ho:PE X o to) (ha:PA X (e :: es) t)
    (hbase:attributeBase o name X.env (eval o X.env) = eval o X.env:=by rfl)
    (hfew:((backTo cpos (starEach (e :: es) X.env)).all (fun x=>!x.1) && (backToKw cpos (keywordEach [] X.env)).all (fun x=>x.1.isSome)
      && decide ((e :: es).length + ([]:List Keyword).length + (if ([]:List Keyword).isEmpty then 0 else 1) < 30)) = true:=by rfl)
    (hline:(apos.endLine == cpos.line) = true:=by rfl) (hs:starEach (e :: es) X.env = (false,eval e X.env) :: starEach es X.env:=by rfl) (hplain:(backTo cpos (starEach es X.env)).any (·.1) = false:=by rfl) :
    PE X (.Call (.Attribute o name apos) (e :: es) [] cpos) (tBM X.K T r to t):=by
  intro pins s σ H Q I h
  refine wpAny_Call_method_late hbase hfew hline rfl (thn (ho pins s σ H _ I h) fun v s1 ⟨x,H1,I1,r1,ty,q1⟩=>?_)
  obtain ⟨h1,h2⟩:=tyV_is I1 r1 ty
  refine ⟨T,id,pa,slot,hty,h1,h2,?_⟩
  have hA:=ha cpos pins s1 σ H1 _ I1 q1
  rw [hs] at hA ⊢
  refine Calls.callWith_builtin (by show (false || (backTo cpos (starEach es X.env)).any (·.1)) = false; rw [hplain] <;> rfl) (Calls.evalArgs_plain ?_)
  exact thn hA fun us s2 ⟨vs,H2,I2,r2,q2⟩=>hm pins s2 σ H2 x vs v us Q I2 r1 r2 q2
end
end L2
namespace L2
open PySem PySem.Spec PyProof.Rows
def MtM (X:Cx) (id:String) (r:V→List V→Hp→VK→Prop):Prop :=
  ∀ (pins:List (Addr × Obj)) (s:Shared) (σ:St) (H:Hp) (x:V) (xs:List V) (v:Value) (us:List Value) (Q:VK),Inv X pins σ H s→RelV x v→Vals xs us→r x xs H Q →
    wpAny (model X.prog X.w) X.A (call (.builtin id) (v :: us)) (EP X pins σ Q) X.xe s
theorem Vals.one:∀ {x:V} {us:List Value},Vals [x] us→∃ u,us = [u]∧RelV x u
  | _,_,.cons r .nil=>⟨_,rfl,r⟩
theorem Vals.zero:∀ {us:List Value},Vals [] us→us = []
  | _,.nil=>rfl
theorem Vals.dropLast {xs:List V} {us:List Value} (h:Vals xs us):Vals xs.dropLast us.dropLast:=by
  induction h with
  | nil=>exact .nil
  | cons r t ih =>
    cases t with
    | nil=>exact .nil
    | cons q t'=>exact .cons r ih
theorem Vals.rep {xs:List V} {us:List Value} (h:Vals xs us):∀ k:Nat,Vals (List.replicate k xs).flatten (List.replicate k us).flatten
  | 0=>.nil
  | k + 1=>by
    rw [List.replicate_succ,List.replicate_succ,List.flatten_cons,List.flatten_cons]
    exact Vals.append h (Vals.rep h k)
theorem foldl_rep (its:List Value):∀ (k:Nat) (acc:List Value),
    List.foldl (fun x1 x2=>x1 ++ x2) acc.toArray (List.replicate k its.toArray) = (acc ++ (List.replicate k its).flatten).toArray
  | 0,acc=>by simp
  | k + 1,acc=>by
    have e:acc.toArray ++ its.toArray = (acc ++ its).toArray:=by simp
    have e2:(acc ++ its) ++ (List.replicate k its).flatten = acc ++ (List.replicate (k + 1) its).flatten:=by
      rw [List.replicate_succ,List.flatten_cons,List.append_assoc]
    rw [← e2,← foldl_rep its k (acc ++ its),← e,List.replicate_succ,List.foldl_cons]
section
variable {X:Cx} {pins:List (Addr × Obj)} {σ:St} {H:Hp} {s:Shared} {l b:Addr} {xs ys zs:List V}
theorem Inv.lset {its its':List Value} {n:Nat} {f:Array Value→Array Value} {t':Nat} (I:Inv X pins σ H s) (hH:H l = some (.lst xs))
    (e:s.heap.get? l = some { cls:=.type "list",data:=.seq its.toArray n }) (hf:f its.toArray = its'.toArray) (hv:Vals ys its') (hz:ys.length≤sizeLine) :
    Inv X pins σ (upd H l (.lst ys)) { s with heap:=s.heap.update l (Obj.mapSeq f),toks:=t' }:=by
  have q:=PySem.IsL.update e f
  rw [hf] at q
  refine I.write (x:=l) (e:=l) (by rw [hH]; exact trivial) (.inl rfl) (fun b' u hb hu=>(Heap.get?_update_other s.heap (Obj.mapSeq f) (Ne.symm hb)).trans hu) ⟨_,q⟩ ?_
  exact ⟨hz,its',_,hv,q⟩
theorem Inv.lnew {its:List Value} {t':Nat} (I:Inv X pins σ H s) (hv:Vals ys its) (hz:ys.length≤sizeLine) :
    Inv X pins σ (upd H s.heap.objs.size (.lst ys)) { s with heap:=s.heap.push { cls:=.type "list",data:=.seq its.toArray },toks:=t' } :=
  I.laid (fun _ _ q=>Heap.get?_push_of_some _ q) (Nat.le_refl _) ⟨hz,its,0,hv,Heap.get?_push_size _ rfl⟩
theorem Inv.fresh (I:Inv X pins σ H s):H s.heap.objs.size = none:=I.hok.fresh (Nat.le_refl _)
theorem Inv.lstM (I:Inv X pins σ H s) (hH:H l = some (.lst xs)):xs.length≤sizeLine∧∃ (its:List Value) (n:Nat),Vals xs its∧xs.length = its.length∧s.heap.get? l = some { cls:=.type "list",data:=.seq its.toArray n }:=by
  obtain ⟨z,its,n,r,e⟩:=I.hok l _ hH
  exact ⟨z,its,n,r,r.length,e⟩
theorem notLongL {n:Nat} (h:n≤sizeLine):Builtin.List.listTooLong n = false:=by
  unfold Builtin.List.listTooLong
  exact decide_eq_false (by omega)
end
section
variable {X:Cx}
def rAppend:V→List V→Hp→VK→Prop:=fun x vs H Q=>∃ l xs y,x = .ref l∧vs = [y]∧H l = some (.lst xs)∧xs.length < sizeLine∧Q .non (upd H l (.lst (xs ++ [y])))
theorem mt_append:MtM X "list.append" rAppend:=by
  intro pins s σ H x vs v us Q I rx rv h
  obtain ⟨l,xs,y,rfl,rfl,hH,hz,q⟩:=h
  cases rx
  obtain ⟨u,rfl,ru⟩:=rv.one
  obtain ⟨z,its,n,r,hl,e⟩:=I.lstM hH
  refine call_meets F.slot_list_append ⟨_,e,rfl⟩ F.entry_list_append (F.args_list_append_2 _ _) (PySem.list_append l its.toArray n u (by rw [List.size_toArray]; omega)) ⟨e,?_⟩
  refine ⟨.non,_,I.lset (its':=its ++ [u]) hH e (by simp) (r.append (.cons ru .nil)) ?_,rfl,q⟩
  rw [List.length_append,List.length_singleton]
  omega
def rExtend:V→List V→Hp→VK→Prop:=fun x vs H Q=>∃ l b xs zs,x = .ref l∧vs = [.ref b]∧H l = some (.lst xs)∧H b = some (.lst zs)∧xs.length + zs.length≤sizeLine∧Q .non (upd H l (.lst (xs ++ zs)))
theorem mt_extend:MtM X "list.extend" rExtend:=by
  intro pins s σ H x vs v us Q I rx rv h
  obtain ⟨l,b,xs,zs,rfl,rfl,hH,hB,hz,q⟩:=h
  cases rx
  obtain ⟨u,rfl,ru⟩:=rv.one
  cases ru
  obtain ⟨z,its,n,r,hl,e⟩:=I.lstM hH
  obtain ⟨z2,its2,n2,r2,hl2,e2⟩:=I.lstM hB
  have hsz:its.toArray.size + its2.toArray.size≤sizeLine:=by rw [List.size_toArray,List.size_toArray]; omega
  have hlong:¬ (!its.toArray.isEmpty && Builtin.List.listTooLong (its.toArray.size + its2.toArray.size)) = true:=by
    rw [notLongL hsz,Bool.and_false]
    exact Bool.false_ne_true
  refine call_meets F.slot_list_extend ⟨_,e,rfl⟩ F.entry_list_extend (F.args_list_extend_2 _ _)
    (AutoSeq1.list_extend_list_list_0 l its.toArray n b its2.toArray n2 hlong (by rw [List.size_toArray]; omega) (by omega)) ⟨e,e2,?_⟩
  refine ⟨.non,_,I.lset (its':=its ++ its2) hH e (by simp) (r.append r2) ?_,rfl,q⟩
  rw [List.length_append]
  omega
def rRep:R2:=fun x y H Q=>∃ l k xs,x = .ref l∧y = .int k∧H l = some (.lst xs)∧-(2 ^ 63)≤k∧k < 2 ^ 63∧xs.length * k.toNat≤sizeLine ∧
  ∀ p,H p = none→Q (.ref p) (upd H p (.lst (List.replicate k.toNat xs).flatten))
theorem len_rep {α:Type} (xs:List α) (k:Nat):(List.replicate k xs).flatten.length = k * xs.length:=by
  induction k with
  | zero=>simp
  | succ k ih=>rw [List.replicate_succ,List.flatten_cons,List.length_append,ih,Nat.succ_mul,Nat.add_comm]
theorem op_rep:OpR X (binaryOp .Mult) rRep:=by
  intro pins s σ H x y v u Q I rx ry h
  obtain ⟨l,k,xs,rfl,rfl,hH,h1,h2,hz,q⟩:=h
  cases rx
  obtain ⟨t,rfl⟩:=ry
  obtain ⟨z,its,n,r,hl,e⟩:=I.lstM hH
  have hlen:its.toArray.size * k.toNat≤sizeLine:=by rw [List.size_toArray,← hl]; exact hz
  have hcap:¬ its.toArray.size * k.toNat > (2 ^ 63 - 1) / 8:=by
    have:(sizeLine:Nat)≤(2 ^ 63 - 1) / 8:=by decide
    omega
  have hfit:¬ (!Builtin.List.listFitsIndex k) = true:=by
    rw [fitsIndex_both h1 h2]
    exact Bool.false_ne_true
  have hlong:¬ Builtin.List.listTooLong (its.toArray.size * k.toNat) = true:=by
    rw [notLongL hlen]
    exact Bool.false_ne_true
  have hnew:List.foldl (fun x1 x2=>x1 ++ x2) #[] (List.replicate (if its.toArray.isEmpty = true then 0 else k.toNat) its.toArray) = (List.replicate k.toNat its).flatten.toArray:=by
    have f0:∀ m:Nat,List.foldl (fun x1 x2=>x1 ++ x2) #[] (List.replicate m its.toArray) = (List.replicate m its).flatten.toArray:=fun m=>by
      have:=foldl_rep its m []
      rw [List.nil_append] at this
      exact this
    rw [f0]
    cases its with
    | nil=>simp
    | cons a r'=>rw [if_neg (by simp)]
  refine wpAny_binaryOp_repeat_ref (T := "list") (U := "int") (by decide) ⟨_,e,rfl⟩ (fun s'=>typeIs_int s' k t) noFill_list_mul F.fills_int_mul F.slot_int_rmul repeat_list F.slot_int_index.lookup
    (call_meets F.slot_int_rmul (typeIs_int s k t) F.entry_int_rmul (F.args_int_rmul_2 _ _) (int___rmul___int_list k t l its.toArray n)
      ⟨e,rfl,⟨_,e,rfl⟩,call_meets F.slot_list_mul ⟨_,e,rfl⟩ F.entry_list_mul (F.args_list_mul_2 _ _) (AutoListH.list___mul___list_int_3 l its.toArray n k t hfit hcap hlong) ⟨e,?_⟩⟩)
  rw [hnew]
  exact ⟨.ref _,_,I.lnew (t':=s.toks) (r.rep k.toNat) (by rw [len_rep,Nat.mul_comm]; exact hz),rfl,q _ I.fresh⟩
end
section
variable {prog:Program} {w:World} {A:Around} {E:Value→Shared→Prop} {s:Shared}
end
section
variable {X:Cx}
end
end L2
namespace L2
open PySem PySem.Spec PyProof.Rows
section
variable {κ:Type} [DecidableEq κ]
def valV (kvs:List (κ × V)) (k:κ):Option V:=(kvs.find? fun kv=>decide (kv.1 = k)).map (·.2)
def putK (kvs:List (κ × V)) (k:κ) (v:V):List (κ × V) :=
  if (kvs.any fun kv=>decide (kv.1 = k)) = true then kvs.map (fun kv=>if kv.1 = k then (kv.1,v) else kv) else kvs ++ [(k,v)]
def dropK (kvs:List (κ × V)) (k:κ):List (κ × V):=kvs.filter fun kv=>decide (kv.1≠k)
theorem valV_pos {p:κ × V} {r:List (κ × V)} {k:κ} (e:p.1 = k):valV (p :: r) k = some p.2:=by simp [valV,List.find?_cons,e]
theorem valV_neg {p:κ × V} {r:List (κ × V)} {k:κ} (e:¬ p.1 = k):valV (p :: r) k = valV r k:=by simp [valV,List.find?_cons,e]
theorem valV_any (k:κ):∀ kvs:List (κ × V),(kvs.any fun kv=>decide (kv.1 = k)) = (valV kvs k).isSome
  | []=>rfl
  | p :: r=>by
    rw [List.any_cons]
    by_cases e:p.1 = k
    · simp only [valV_pos e,decide_eq_true e,Bool.true_or,Option.isSome_some]
    · rw [valV_neg e,decide_eq_false e,Bool.false_or]; exact valV_any k r
theorem length_putK (kvs:List (κ × V)) (k:κ) (v:V):(putK kvs k v).length≤kvs.length + 1:=by
  unfold putK
  split
  · rw [List.length_map]; omega
  · rw [List.length_append,List.length_cons,List.length_nil]; omega
theorem RelO.isSome_eq {o:Option V} {u:Option Value} (r:RelO o u):o.isSome = u.isSome:=by
  cases o with
  | none=>cases u with
    | none=>rfl
    | some _=>exact (show False from r).elim
  | some _=>cases u with
    | none=>exact (show False from r).elim
    | some _=>rfl
theorem RelO.getD {o:Option V} {u:Option Value} {d:V} {d':Value} (r:RelO o u) (rd:RelV d d'):RelV (o.getD d) (u.getD d'):=by
  cases o with
  | none=>cases u with
    | none=>exact rd
    | some _=>exact (show False from r).elim
  | some _=>cases u with
    | none=>exact (show False from r).elim
    | some _=>exact r
theorem KV.val {kvs:List (κ × V)} {vs:List (κ × Value)} (r:KV kvs vs) (k:κ):RelO (valV kvs k) (valueAt vs k):=by
  unfold KV at r
  induction r with
  | nil=>exact True.intro
  | @cons p q ps qs h t ih =>
    obtain ⟨h1,h2⟩:=h
    by_cases e:p.1 = k
    · have e':q.1 = k:=h1.symm.trans e
      have b:valueAt (q :: qs) k = some q.2:=by simp [valueAt,List.find?_cons,e']
      rw [valV_pos e,b]; exact h2
    · have e':¬ q.1 = k:=fun z=>e (h1.trans z)
      have b:valueAt (q :: qs) k = valueAt qs k:=by simp [valueAt,List.find?_cons,e']
      rw [valV_neg e,b]; exact ih
theorem KV.any {kvs:List (κ × V)} {vs:List (κ × Value)} (r:KV kvs vs) (k:κ):(kvs.any fun kv=>decide (kv.1 = k)) = vs.any fun kv=>decide (kv.1 = k):=by
  unfold KV at r
  induction r with
  | nil=>rfl
  | cons h t ih=>rw [List.any_cons,List.any_cons,ih,h.1]
theorem KV.repl {kvs:List (κ × V)} {vs:List (κ × Value)} (r:KV kvs vs) (k:κ) {y:V} {u:Value} (ry:RelV y u) :
    KV (kvs.map fun kv=>if kv.1 = k then (kv.1,y) else kv) (vs.map fun kv=>if kv.1 = k then (kv.1,u) else kv):=by
  unfold KV at r ⊢
  induction r with
  | nil=>exact .nil
  | @cons p q ps qs h t ih =>
    rw [List.map_cons,List.map_cons]
    refine .cons ?_ ih
    obtain ⟨h1,h2⟩:=h
    by_cases e:p.1 = k
    · rw [if_pos e,if_pos (h1.symm.trans e)]; exact ⟨h1,ry⟩
    · rw [if_neg e,if_neg (fun z=>e (h1.trans z))]; exact ⟨h1,h2⟩
theorem KV.put {kvs:List (κ × V)} {vs:List (κ × Value)} (r:KV kvs vs) (k:κ) {y:V} {u:Value} (ry:RelV y u):KV (putK kvs k y) (stored vs k u):=by
  unfold putK stored
  rw [r.any k]
  by_cases e:(vs.any fun kv=>decide (kv.1 = k)) = true
  · rw [if_pos e,if_pos e]; exact r.repl k ry
  · rw [if_neg e,if_neg e]; exact Paired.snoc r ⟨rfl,ry⟩
theorem KV.drop {kvs:List (κ × V)} {vs:List (κ × Value)} (r:KV kvs vs) (k:κ):KV (dropK kvs k) (without vs k):=by
  unfold KV at r ⊢
  unfold dropK without
  induction r with
  | nil=>exact .nil
  | @cons p q ps qs h t ih =>
    obtain ⟨h1,h2⟩:=h
    rw [List.filter_cons,List.filter_cons]
    by_cases e:p.1 = k
    · have a:¬ decide (p.1≠k) = true:=by simp [e]
      have b:¬ decide (q.1≠k) = true:=by simp [h1.symm.trans e]
      rw [if_neg a,if_neg b]; exact ih
    · have e':¬ q.1 = k:=fun z=>e (h1.trans z)
      have a:decide (p.1≠k) = true:=by simp [e]
      have b:decide (q.1≠k) = true:=by simp [e']
      rw [if_pos a,if_pos b]; exact .cons ⟨h1,h2⟩ ih
theorem KV.keys {kvs:List (κ × V)} {vs:List (κ × Value)} (r:KV kvs vs):kvs.map (·.1) = vs.map (·.1):=by
  unfold KV at r
  induction r with
  | nil=>rfl
  | cons h t ih=>rw [List.map_cons,List.map_cons,ih,h.1]
theorem KV.length {kvs:List (κ × V)} {vs:List (κ × Value)} (r:KV kvs vs):kvs.length = vs.length:=Paired.length r
end
theorem kV_is {P:Program} {w:World} {k:Key} {u:Value} (r:RelV (kV k) u):(mixKind P w).is k u = true:=by
  cases k with
  | inl i=>obtain ⟨t,e⟩:=(show ∃ t,u = Value.int i t from r); subst e; exact mixKind_int P w i t
  | inr x=>obtain ⟨t,e⟩:=(show ∃ t,u = Value.str x t from r); subst e; exact mixKind_str P w x t
theorem tkV_is {P:Program} {w:World} {k:TKey} {u:Value} (r:RelV (tkV k) u):(tkKind P w).is k u = true:=by
  cases k with
  | inl x=>obtain ⟨t,e⟩:=(show ∃ t,u = Value.str x t from r); subst e; show Value.isStrOf x (.str x t) = true; simp [Value.isStrOf]
  | inr b=>have e:u = Value.bool b:=r; subst e; exact beq_self_eq_true _
theorem items_are {P:Program} {w:World}:∀ {ks:List TKey} {us:List Value},Vals (ks.map tkV) us→ItemsAre (tkKind P w) ks us
  | [],_,r=>by rw [List.map_nil] at r; cases r; exact .nil
  | k :: ks,_,r=>by
    rw [List.map_cons] at r
    cases r with
    | cons h t=>exact .cons (tkV_is h) (items_are t)
abbrev KT (H:Hp):List (List TKey × V)→List (List TKey × Addr × Value)→Prop:=Paired fun p q=>p.1 = q.1∧H q.2.1 = some (.tup (p.1.map tkV))∧RelV p.2 q.2.2
theorem KT.val {H:Hp} {kvs:List (List TKey × V)} {xs:List (List TKey × Addr × Value)} (r:KT H kvs xs) (k:List TKey):RelO (valV kvs k) ((atKey xs k).map (·.2)):=by
  induction r with
  | nil=>exact True.intro
  | @cons p q ps qs h t ih =>
    obtain ⟨h1,_,h2⟩:=h
    by_cases e:p.1 = k
    · have e':q.1 = k:=h1.symm.trans e
      have b:atKey (q :: qs) k = some q.2:=by simp [atKey,List.find?_cons,e']
      rw [valV_pos e,b]; exact h2
    · have e':¬ q.1 = k:=fun z=>e (h1.trans z)
      have b:atKey (q :: qs) k = atKey qs k:=by simp [atKey,List.find?_cons,e']
      rw [valV_neg e,b]; exact ih
theorem KT.repl {H:Hp} {kvs:List (List TKey × V)} {xs:List (List TKey × Addr × Value)} (r:KT H kvs xs) (k:List TKey) {y:V} {u:Value} (ry:RelV y u) :
    KT H (kvs.map fun kv=>if kv.1 = k then (kv.1,y) else kv) (xs.map (putAt k u)):=by
  induction r with
  | nil=>exact .nil
  | @cons p q ps qs h t ih =>
    rw [List.map_cons,List.map_cons]
    refine .cons ?_ ih
    obtain ⟨h1,h2,h3⟩:=h
    unfold putAt
    by_cases e:p.1 = k
    · rw [if_pos e,if_pos (h1.symm.trans e)]; exact ⟨h1,h2,ry⟩
    · rw [if_neg e,if_neg (fun z=>e (h1.trans z))]; exact ⟨h1,h2,h3⟩
theorem KT.put {H:Hp} {kvs:List (List TKey × V)} {xs:List (List TKey × Addr × Value)} (r:KT H kvs xs) (k:List TKey) {b:Addr} {y:V} {u:Value} (hb:H b = some (.tup (k.map tkV))) (ry:RelV y u) :
    KT H (putK kvs k y) (storedH xs k b u):=by
  have e:(kvs.any fun kv=>decide (kv.1 = k)) = (atKey xs k).isSome:=by
    rw [valV_any,(r.val k).isSome_eq,Option.isSome_map]
  unfold putK storedH
  rw [e]
  by_cases q:(atKey xs k).isSome = true
  · rw [if_pos q,if_pos q]; exact r.repl k ry
  · rw [if_neg q,if_neg q]; exact Paired.snoc r ⟨rfl,hb,ry⟩
theorem KT.keeps {H H':Hp} {kvs:List (List TKey × V)} {xs:List (List TKey × Addr × Value)} (r:KT H kvs xs) (ht:∀ b ys,H b = some (.tup ys)→H' b = some (.tup ys)):KT H' kvs xs :=
  Paired.mapP r fun _ _ z=>⟨z.1,ht _ _ z.2.1,z.2.2⟩
section
variable {P:Program} {w:World} {H:Hp} {h:Heap} {a:Addr}
theorem rd_of {u:HO} (ok:HOk P w H h) (e:Rd H a u):ObjOk P w H h a u:=e.ok ok
theorem dk_rd {kvs:List (Key × V)} (ok:HOk P w H h) (e:Rd H a (.dK kvs)):kvs.length≤sizeLine∧(a == sysModules) = false∧∃ vs,KV kvs vs∧h.DictOf (mixKind P w) a vs :=
  show ObjOk P w H h a (.dK kvs) from rd_of ok e
theorem dk_of {kvs:List (Key × V)} (ok:HOk P w H h) (e:H a = some (.dK kvs)):kvs.length≤sizeLine∧(a == sysModules) = false∧∃ vs,KV kvs vs∧h.DictOf (mixKind P w) a vs:=dk_rd ok (.inl e)
theorem key_of {ks:List TKey} (ok:HOk P w H h) (e:H a = some (.tup (ks.map tkV))):(tupleKind (tkKind P w)).is h ks a:=by
  obtain ⟨_,its,r,o,h1,h2,n,h3⟩:=(show ObjOk P w H h a (.tup (ks.map tkV)) from ok a _ e)
  exact ⟨o,its.toArray,n,h1,h2,h3,by simpa using items_are r⟩
theorem dt_rd {kvs:List (List TKey × V)} (ok:HOk P w H h) (e:Rd H a (.dT kvs)):kvs.length≤sizeLine∧(a == sysModules) = false ∧
    ∃ xs,KT H kvs xs∧h.DictOfH (tupleKind (tkKind P w)) a xs:=by
  obtain ⟨z,y,xs,r,o,es,ep,h1,h2,h3,h4,h5⟩:=(show ObjOk P w H h a (.dT kvs) from rd_of ok e)
  refine ⟨z,y,xs,r,o,es,ep,h1,h2,h3,h4,fun x hx=>?_,h5⟩
  have all:∀ {l:List (List TKey × V)} {m:List (List TKey × Addr × Value)},KT H l m→∀ x∈m,(tupleKind (tkKind P w)).is h x.1 x.2.1:=by
    intro l m q
    induction q with
    | nil=>intro x hx; exact nomatch hx
    | @cons p q ps qs hq t ih =>
      intro x hx
      rcases List.mem_cons.mp hx with e | hx
      · subst e
        exact key_of ok (by rw [← hq.1]; exact hq.2.1)
      · exact ih x hx
  exact all r x hx
theorem dt_of {kvs:List (List TKey × V)} (ok:HOk P w H h) (e:H a = some (.dT kvs)):kvs.length≤sizeLine∧(a == sysModules) = false ∧
    ∃ xs,KT H kvs xs∧h.DictOfH (tupleKind (tkKind P w)) a xs:=dt_rd ok (.inl e)
end
def DGet (H:Hp) (a:Addr) (y:V) (r:Option V):Prop :=
  (∃ kvs k,Rd H a (.dK kvs)∧y = kV k∧r = valV kvs k)∨∃ kvs k b,Rd H a (.dT kvs)∧y = .ref b∧H b = some (.tup (k.map tkV))∧r = valV kvs k
def DPut (H:Hp) (a:Addr) (y v:V) (H':Hp):Prop :=
  (∃ kvs k,H a = some (.dK kvs)∧y = kV k∧kvs.length < sizeLine∧H' = upd H a (.dK (putK kvs k v))) ∨
  ∃ kvs k b,H a = some (.dT kvs)∧y = .ref b∧H b = some (.tup (k.map tkV))∧kvs.length < sizeLine∧H' = upd H a (.dT (putK kvs k v))
theorem DGet.k {H:Hp} {a:Addr} {kvs:List (Key × V)} {k:Key} (e:H a = some (.dK kvs)):DGet H a (kV k) (valV kvs k):=.inl ⟨kvs,k,.inl e,rfl,rfl⟩
theorem DGet.t {H:Hp} {a b:Addr} {kvs:List (List TKey × V)} {k:List TKey} (e:H a = some (.dT kvs)) (eb:H b = some (.tup (k.map tkV))):DGet H a (.ref b) (valV kvs k):=.inr ⟨kvs,k,b,.inl e,rfl,eb,rfl⟩
theorem DPut.k {H:Hp} {a:Addr} {kvs:List (Key × V)} {k:Key} {v:V} (e:H a = some (.dK kvs)) (hl:kvs.length < sizeLine):DPut H a (kV k) v (upd H a (.dK (putK kvs k v))):=.inl ⟨kvs,k,e,rfl,hl,rfl⟩
theorem DPut.t {H:Hp} {a b:Addr} {kvs:List (List TKey × V)} {k:List TKey} {v:V} (e:H a = some (.dT kvs)) (eb:H b = some (.tup (k.map tkV))) (hl:kvs.length < sizeLine) :
    DPut H a (.ref b) v (upd H a (.dT (putK kvs k v))):=.inr ⟨kvs,k,b,e,rfl,eb,hl,rfl⟩
section
variable {X:Cx} {pins:List (Addr × Obj)} {σ:St} {H:Hp} {s:Shared} {a:Addr} {y v:V} {u r:Value} {o:Option V} {A:Around} {E:Value→Shared→Prop}
theorem Inv.big (I:Inv X pins σ H s):sysModules < s.heap.objs.size:=by
  have h:mainGlobals < s.heap.objs.size:=(I.mod.glob.keeps I.bk).lt
  exact Nat.lt_trans (by decide) h
theorem d_getItem {Q:Value→Shared→Prop} (hu:A.units + 1 < cLine) (I:Inv X pins σ H s) (g:DGet H a y (some v)) (ry:RelV y u) (h:∀ w' s',Inv X pins σ H s'→RelV v w'→Q w' s') :
    wpAny (model X.prog X.w) A (getItem (.ref a) u) Q E s:=by
  rcases g with ⟨kvs,k,e,ey,l⟩ | ⟨kvs,k,b,e,ey,eb,l⟩
  · subst ey
    obtain ⟨z,hd,vs,rel,dd⟩:=dk_rd I.hok e
    obtain ⟨w',hw,rw'⟩:=RelO.some_of (v:=v) (o:=valueAt vs k) (by rw [l]; exact rel.val k)
    exact wpAny_getItem_of (kV_is ry) dd.mapOf hw (h w' _ (I.tok _) rw')
  · subst ey
    cases (show u = Value.ref b from ry)
    obtain ⟨z,hd,xs,rel,dd⟩:=dt_rd I.hok e
    obtain ⟨w',hw,rw'⟩:=RelO.some_of (v:=v) (o:=(atKey xs k).map (·.2)) (by rw [l]; exact rel.val k)
    obtain ⟨p,hp,hp2⟩:=Option.map_eq_some_iff.mp hw
    refine wpAny_getItem_heap (tupleKind_room_in1 hu) (key_of I.hok eb) dd hp ?_
    rw [hp2]
    exact h w' _ (I.tok _) rw'
theorem d_in {Q:Value→Shared→Prop} (hu:A.units + 1 < cLine) (I:Inv X pins σ H s) (g:DGet H a y o) (ry:RelV y u) (h:∀ s',Inv X pins σ H s'→Q (.bool o.isSome) s') :
    wpAny (model X.prog X.w) A (compareOp .In u (.ref a)) Q E s:=by
  rcases g with ⟨kvs,k,e,ey,l⟩ | ⟨kvs,k,b,e,ey,eb,l⟩
  · subst ey
    obtain ⟨z,hd,vs,rel,dd⟩:=dk_rd I.hok e
    refine wpAny_in_of (kV_is ry) hd dd.mapOf ?_
    rw [← (rel.val k).isSome_eq,← l]
    exact h _ (I.tok _)
  · subst ey
    cases (show u = Value.ref b from ry)
    obtain ⟨z,hd,xs,rel,dd⟩:=dt_rd I.hok e
    refine wpAny_in_heap (tupleKind_room_in1 hu) (key_of I.hok eb) hd dd ?_
    have q:=(rel.val k).isSome_eq
    rw [Option.isSome_map] at q
    rw [← q,← l]
    exact h _ (I.tok _)
theorem d_notIn {Q:Value→Shared→Prop} (hu:A.units + 1 < cLine) (I:Inv X pins σ H s) (g:DGet H a y o) (ry:RelV y u) (h:∀ s',Inv X pins σ H s'→Q (.bool (!o.isSome)) s') :
    wpAny (model X.prog X.w) A (compareOp .NotIn u (.ref a)) Q E s:=by
  rcases g with ⟨kvs,k,e,ey,l⟩ | ⟨kvs,k,b,e,ey,eb,l⟩
  · subst ey
    obtain ⟨z,hd,vs,rel,dd⟩:=dk_rd I.hok e
    refine wpAny_notIn_of (kV_is ry) hd dd.mapOf ?_
    rw [← (rel.val k).isSome_eq,← l]
    exact h _ (I.tok _)
  · subst ey
    cases (show u = Value.ref b from ry)
    obtain ⟨z,hd,xs,rel,dd⟩:=dt_rd I.hok e
    refine wpAny_notIn_heap (tupleKind_room_in1 hu) (key_of I.hok eb) hd dd ?_
    have q:=(rel.val k).isSome_eq
    rw [Option.isSome_map] at q
    rw [← q,← l]
    exact h _ (I.tok _)
theorem d_write {h':Heap} {t':Nat} {ob:HO} (I:Inv X pins σ H s) (mu:Mut (H a)) (hs:Heap.SameBut a s.heap h') (he:∃ q,h'.get? a = some q) (new:ObjOk X.prog X.w (upd H a ob) h' a ob) :
    Inv X pins σ (upd H a ob) { s with heap:=h',toks:=t' } :=
  I.write (x:=a) (e:=a) mu (.inl rfl) (fun b q hb z=>(hs.2 b hb).trans z) he new
theorem dk_new {P:Program} {w:World} {H':Hp} {h':Heap} {kvs:List (Key × V)} {vs:List (Key × Value)} (z:kvs.length≤sizeLine) (hd:(a == sysModules) = false) (rel:KV kvs vs) (dd:h'.DictOf (mixKind P w) a vs) :
    ObjOk P w H' h' a (.dK kvs):=⟨z,hd,vs,rel,dd⟩
theorem d_setItem {H':Hp} {Q:Unit→Shared→Prop} (hu:A.units + 1 < cLine) (I:Inv X pins σ H s) (g:DPut H a y v H') (ry:RelV y u) (rv:RelV v r) (h:∀ s',Inv X pins σ H' s'→Q () s') :
    wpAny (model X.prog X.w) A (setItem (.ref a) u r) Q E s:=by
  rcases g with ⟨kvs,k,e,ey,l,eH⟩ | ⟨kvs,k,b,e,ey,eb,l,eH⟩
  · subst ey eH
    obtain ⟨z,hd,vs,rel,dd⟩:=dk_of I.hok e
    have hz:vs.length≤sizeLine:=by rw [← rel.length]; exact z
    have hl:(putK kvs k v).length≤sizeLine:=by have:=length_putK kvs k v; omega
    refine wpAny_setItem_pairs (hsz:=hz) (kV_is ry) dd fun h' dd' hs=>h _ ?_
    have he:∃ q,h'.get? a = some q:=let ⟨q,_,_,hq,_⟩:=dd'; ⟨q,hq⟩
    exact d_write I (by rw [e]; exact True.intro) hs he (dk_new hl hd (rel.put k rv) dd')
  · subst ey eH
    cases (show u = Value.ref b from ry)
    obtain ⟨z,hd,xs,rel,dd⟩:=dt_of I.hok e
    have hz:xs.length≤sizeLine:=by rw [← Paired.length rel]; exact z
    have hl:(putK kvs k v).length≤sizeLine:=by have:=length_putK kvs k v; omega
    refine wpAny_setItem_heap (hsz:=hz) (tupleKind_room_in1 hu) (key_of I.hok eb) dd fun h' dd' hs=>h _ ?_
    obtain ⟨q,es,ep,hq,h2,h3,h4,_,h5⟩:=dd'
    refine d_write I (by rw [e]; exact True.intro) hs ⟨q,hq⟩ ⟨hl,hd,_,(rel.put k eb rv).keeps fun c ys ec=>?_,q,es,ep,hq,h2,h3,h4,h5⟩
    rw [upd_ne (ne_of ec e (fun z=>nomatch z))]
    exact ec
end
section
variable {X:Cx} {pins:List (Addr × Obj)} {σ:St} {H:Hp} {s:Shared} {a:Addr} {kvs:List (Key × V)} {k:Key} {u:Value} {A:Around} {E:Value→Shared→Prop}
end
def NoSl (i:Expr):Prop:=∀ ov iv,subscripted i false ov iv = operate [ov,iv] (getItem ov iv)
theorem subD_of {prog:Program} {w:World} {A:Around} {E:Value→Shared→Prop} {s:Shared} {env:Env} {value slice:Expr} {pos:Pos} {T id:String} {Q:Value→Shared→Prop}
    (hl:typeLookup (.type T) "__getitem__" = pure (some (.builtin id))) (hs:NoSl slice)
    (h:wpAny (model prog w) A (eval value env) (fun o s₁=>wpAny (model prog w) A (eval slice env) (fun i s₂=>s₂.TypeIs o T∧wpAny (model prog w) A (getItem o i) Q E s₂) E s₁) E s) :
    wpAny (model prog w) A (eval (.Subscript value slice pos) env) Q E s:=by
  refine Subscript_ (wpAny_mono h (fun o s₁ h₁=>wpAny_mono h₁ (fun i s₂ h₂=>?_) fun _ _ x=>x) fun _ _ x=>x)
  obtain ⟨hT,h₂⟩:=h₂
  unfold subscriptTail
  refine wpAny_bind ?_
  rw [getitemInPython_of_ne hT.not_modules]
  refine wpAny_bind (wpAny_specialOf hT hl ?_)
  have fin:wpAny (model prog w) A (subscripted slice false o i) (fun r s₃=>wpAny (model prog w) A (letTemporaryGo value o r >>= fun _=>pure r) Q E s₃) E s₂:=by
    rw [hs o i]
    exact wpAny_operating (wpAny_mono h₂ (fun r s₃ h₃=>wpAny_bind (wpAny_letTemporaryGo (wpAny_pure h₃))) fun _ _ x=>x)
  first
    | exact wpAny_pure (wpAny_bind fin)
    | exact wpAny_bind (wpAny_pure (wpAny_bind fin))
    | exact wpAny_bind fin
theorem dict_typeIs {X:Cx} {pins:List (Addr × Obj)} {σ:St} {H:Hp} {s:Shared} {a:Addr} {y:V} {o:Option V} (I:Inv X pins σ H s) (g:DGet H a y o):s.TypeIs (.ref a) "dict" := by
  rcases g with ⟨kvs,k,e,_,_⟩ | ⟨kvs,k,b,e,_,_,_⟩
  · obtain ⟨_,_,vs,_,dd⟩:=dk_rd I.hok e
    exact dd.typeIs
  · obtain ⟨_,_,xs,_,dd⟩:=dt_rd I.hok e
    exact dd.typeIs
def tDGet (td ty:TE):TE:=fun σ H Q=>td σ H fun x H1=>ty σ H1 fun y H2=>∃ a v,x = .ref a∧DGet H2 a y (some v)∧Q v H2
def tDIn (ty td:TE):TE:=fun σ H Q=>ty σ H fun y H1=>td σ H1 fun x H2=>∃ a o,x = .ref a∧DGet H2 a y o∧Q (.bl o.isSome) H2
def tDNotIn (ty td:TE):TE:=fun σ H Q=>ty σ H fun y H1=>td σ H1 fun x H2=>∃ a o,x = .ref a∧DGet H2 a y o∧Q (.bl (!o.isSome)) H2
def sDPut (td ty tv:TE):TS:=fun D σ H=>tv σ H fun v H1=>td σ H1 fun x H2=>ty σ H2 fun y H3=>∃ a H4,x = .ref a∧DPut H3 a y v H4∧D.nx σ H4
section
variable {X:Cx} {o i e value:Expr} {pos pos' tpos:Pos} {td ty tv:TE}
theorem pe_dget (hu:X.A.units + 1 < cLine) (ho:PE X o td) (hi:PE X i ty) (hs:NoSl i):PE X (.Subscript o i pos) (tDGet td ty):=by
  intro pins s σ H Q I h
  refine subD_of PySem.F.slot_dict_getitem.lookup hs (thn (ho pins s σ H _ I h) fun u s1 ⟨x,H1,I1,rx,q1⟩=>thn (hi pins s1 σ H1 _ I1 q1) fun iv s2 ⟨y,H2,I2,ry,a,v,ex,g,q2⟩=>?_)
  subst ex
  obtain rfl:u = Value.ref a:=rx
  exact ⟨dict_typeIs I2 g,d_getItem hu I2 g ry fun w' s3 I3 rw'=>⟨v,H2,I3,rw',q2⟩⟩
theorem pc_din (hu:X.A.units + 1 < cLine) (hi:PE X i ty) (ho:PE X o td):PC X .In i o (tDIn ty td):=by
  intro pins s σ H Q I h
  refine thn (hi pins s σ H _ I h) fun iv s1 ⟨y,H1,I1,ry,q1⟩=>thn (ho pins s1 σ H1 _ I1 q1) fun u s2 ⟨x,H2,I2,rx,a,ov,ex,g,q2⟩=>?_
  subst ex
  obtain rfl:u = Value.ref a:=rx
  exact d_in hu I2 g ry fun s3 I3=>⟨.bl ov.isSome,H2,I3,rfl,q2⟩
theorem pc_dnotin (hu:X.A.units + 1 < cLine) (hi:PE X i ty) (ho:PE X o td):PC X .NotIn i o (tDNotIn ty td):=by
  intro pins s σ H Q I h
  refine thn (hi pins s σ H _ I h) fun iv s1 ⟨y,H1,I1,ry,q1⟩=>thn (ho pins s1 σ H1 _ I1 q1) fun u s2 ⟨x,H2,I2,rx,a,ov,ex,g,q2⟩=>?_
  subst ex
  obtain rfl:u = Value.ref a:=rx
  exact d_notIn hu I2 g ry fun s3 I3=>⟨.bl (!ov.isSome),H2,I3,rfl,q2⟩
theorem ps_dput (hu:X.A.units + 1 < cLine) (ho:PE X o td) (hi:PE X i ty) (hv:PE X value tv) (hs:swapsWith value (some (.Subscript o i pos')) pos.line X.env = pure false) :
    PS X (.Assign [.Subscript o i pos'] value pos) (sDPut td ty tv):=by
  intro pins s σ H D I h
  refine wpAny_Assign_Subscript (thn (hv pins s σ H _ I h) fun r s1 ⟨v,H1,I1,rv,q1⟩=>thn (ho pins s1 σ H1 _ I1 q1) fun u s2 ⟨x,H2,I2,rx,q2⟩=>thn (hi pins s2 σ H2 _ I2 q2) fun iv s3 ⟨y,H3,I3,ry,a,H4,ex,g,q3⟩=>?_) hs
  subst ex
  obtain rfl:u = Value.ref a:=rx
  exact d_setItem hu I3 g ry rv fun s4 I4=>⟨σ,H4,I4,q3⟩
end
theorem dk_empty {P:Program} {w:World} {H:Hp} (h:Heap) (hb:sysModules < h.objs.size):ObjOk P w H (h.push { cls:=.type "dict",data:=.dict #[] }) h.objs.size (.dK []) :=
  ⟨Nat.zero_le _,beq_eq_false_iff_ne.mpr (Ne.symm (Nat.ne_of_lt hb)),[],.nil,Heap.DictOf.new h⟩
theorem dt_empty {P:Program} {w:World} {H:Hp} (h:Heap) (hb:sysModules < h.objs.size):ObjOk P w H (h.push { cls:=.type "dict",data:=.dict #[] }) h.objs.size (.dT []) :=
  ⟨Nat.zero_le _,beq_eq_false_iff_ne.mpr (Ne.symm (Nat.ne_of_lt hb)),[],.nil,_,#[],0,Heap.get?_push_size _ rfl,⟨rfl,rfl,rfl⟩,rfl,rfl,List.nodup_nil⟩
def tDNewK:TE:=fun _ H Q=>∀ p,H p = none→Q (.ref p) (upd H p (.dK []))
def tDNewT:TE:=fun _ H Q=>∀ p,H p = none→Q (.ref p) (upd H p (.dT []))
section
variable {X:Cx} {pos:Pos}
theorem pe_dnewK:PE X (.Dict [] [] pos) tDNewK:=fun pins s σ H Q I h =>
  wpAny_Dict_empty ⟨.ref s.heap.objs.size,_,I.laid (a:=s.heap.objs.size) (o:=.dK []) (t':=s.toks) (fun _ _ q=>Heap.get?_push_of_some _ q) (Nat.le_refl _) (dk_empty s.heap I.big),rfl,h _ (I.hok.fresh (Nat.le_refl _))⟩
theorem pe_dnewT:PE X (.Dict [] [] pos) tDNewT:=fun pins s σ H Q I h =>
  wpAny_Dict_empty ⟨.ref s.heap.objs.size,_,I.laid (a:=s.heap.objs.size) (o:=.dT []) (t':=s.toks) (fun _ _ q=>Heap.get?_push_of_some _ q) (Nat.le_refl _) (dt_empty s.heap I.big),rfl,h _ (I.hok.fresh (Nat.le_refl _))⟩
end
def tPairs:List (TE × TE)→St→Hp→(List (V × V)→Hp→Prop)→Prop
  | [],_,H,Q=>Q [] H
  | (tk,tv) :: r,σ,H,Q=>tk σ H fun x H1=>tv σ H1 fun y H2=>tPairs r σ H2 fun ps H3=>Q ((x,y) :: ps) H3
abbrev VV:List (V × V)→List (Value × Value)→Prop:=Paired fun p q=>RelV p.1 q.1∧RelV p.2 q.2
def PPs (X:Cx) (pos:Pos) (keys:List (Option Expr)) (values:List Expr) (trs:List (TE × TE)):Prop :=
  ∀ (pins:List (Addr × Obj)) (s:Shared) (σ:St) (H:Hp) (Q:List (V × V)→Hp→Prop),Inv X pins σ H s→tPairs trs σ H Q →
    wpAny (model X.prog X.w) X.A (evalPairs (pairTrees keys values X.env pos)) (fun vs s'=>∃ ps H',Inv X pins σ H' s'∧VV ps vs∧Q ps H') X.xe s
theorem pps_nil {X:Cx} {pos:Pos}:PPs X pos [] [] []:=fun pins s σ H Q I h=>pairTrees_nil_walk ⟨[],H,I,.nil,h⟩
theorem pps_cons {X:Cx} {pos:Pos} {k v:Expr} {ks:List (Option Expr)} {vs:List Expr} {tk tv:TE} {trs:List (TE × TE)} (hk:PE X k tk) (hv:PE X v tv) (hr:PPs X pos ks vs trs) :
    PPs X pos (some k :: ks) (v :: vs) ((tk,tv) :: trs):=fun pins s σ H Q I h =>
  pairTrees_cons_walk (thn (hk pins s σ H _ I h) fun u s1 ⟨x,H1,I1,rx,q1⟩=>thn (hv pins s1 σ H1 _ I1 q1) fun w2 s2 ⟨y,H2,I2,ry,q2⟩ =>
    thn (hr pins s2 σ H2 _ I2 q2) fun ws s3 ⟨ps,H3,I3,rel,q3⟩=>⟨(x,y) :: ps,H3,I3,.cons ⟨rx,ry⟩ rel,q3⟩)
structure M1 (X:Cx) (o:Expr) (m:Str) (apos:Pos) (e:Expr) (cpos:Pos):Prop where
  base:attributeBase o m X.env (eval o X.env) = eval o X.env
  few:((backTo cpos (starEach [e] X.env)).all (fun x=>!x.1) && (backToKw cpos (keywordEach [] X.env)).all (fun x=>x.1.isSome)
    && decide (([e]:List Expr).length + ([]:List Keyword).length + (if ([]:List Keyword).isEmpty then 0 else 1) < 30)) = true
  line:(apos.endLine == cpos.line) = true
  trees:backTo cpos (starEach [e] X.env) = [(false,eval e X.env)]
structure M2 (X:Cx) (o:Expr) (m:Str) (apos:Pos) (e f:Expr) (cpos:Pos):Prop where
  base:attributeBase o m X.env (eval o X.env) = eval o X.env
  few:((backTo cpos (starEach [e,f] X.env)).all (fun x=>!x.1) && (backToKw cpos (keywordEach [] X.env)).all (fun x=>x.1.isSome)
    && decide (([e,f]:List Expr).length + ([]:List Keyword).length + (if ([]:List Keyword).isEmpty then 0 else 1) < 30)) = true
  line:(apos.endLine == cpos.line) = true
  trees:backTo cpos (starEach [e,f] X.env) = [(false,eval e X.env),(false,eval f X.env)]
def IsD (H:Hp) (a:Addr):Prop:=(∃ kvs,Rd H a (.dK kvs))∨∃ kvs,Rd H a (.dT kvs)
theorem isD_at {X:Cx} {pins:List (Addr × Obj)} {σ:St} {H:Hp} {s:Shared} {a:Addr} (I:Inv X pins σ H s) (d:IsD H a) :
    s.TypeIs (.ref a) "dict" ∧ (∀ b,Value.ref a = .ref b→∃ ob,s.heap.get? b = some ob∧ob.dict = none)∧(a == sysModules) = false:=by
  rcases d with ⟨kvs,e⟩ | ⟨kvs,e⟩
  · obtain ⟨_,hd,vs,_,dd⟩:=dk_rd I.hok e
    refine ⟨dd.typeIs,fun b q=>?_,hd⟩
    cases q
    obtain ⟨ob,_,_,h1,h2,_⟩:=dd
    exact ⟨ob,h1,h2.2.1⟩
  · obtain ⟨_,hd,xs,_,dd⟩:=dt_rd I.hok e
    refine ⟨dd.typeIs,fun b q=>?_,hd⟩
    cases q
    obtain ⟨ob,_,_,h1,h2,_⟩:=dd
    exact ⟨ob,h1,h2.2.1⟩
section
variable {X:Cx} {pins:List (Addr × Obj)} {σ:St} {H:Hp} {s:Shared} {a:Addr} {y d:V} {u r:Value} {o:Option V} {A:Around} {E:Value→Shared→Prop}
theorem d_get2 {Q:Value→Shared→Prop} (hu:A.units + 1 < cLine) (I:Inv X pins σ H s) (g:DGet H a y o) (ry:RelV y u) (rd:RelV d r) (h:∀ w' s',Inv X pins σ H s'→RelV (o.getD d) w'→Q w' s') :
    wpAny (model X.prog X.w) A (call (.builtin "dict.get") [.ref a,u,r]) Q E s:=by
  rcases g with ⟨kvs,k,e,ey,l⟩ | ⟨kvs,k,b,e,ey,eb,l⟩
  · subst ey
    obtain ⟨z,hd,vs,rel,dd⟩:=dk_rd I.hok e
    refine call_meetsIn PySem.F.slot_dict_get dd.typeIs PySem.F.entry_dict_get (PySem.F.args_dict_get_3 _ _ _) (meets_dict_get_default (mixKind X.prog X.w) a (kV_is ry) hd r) ⟨_,dd.mapOf,h _ _ (I.tok _) ?_⟩
    rw [l]
    exact (rel.val k).getD rd
  · subst ey
    cases (show u = Value.ref b from ry)
    obtain ⟨z,hd,xs,rel,dd⟩:=dt_rd I.hok e
    refine call_meetsIn PySem.F.slot_dict_get dd.typeIs PySem.F.entry_dict_get (PySem.F.args_dict_get_3 _ _ _) (meetsH_dict_get_default (tupleKind (tkKind X.prog X.w)) a b hd r) ⟨tupleKind_room_in1 hu,k,xs,key_of I.hok eb,dd,h _ _ (I.tok _) ?_⟩
    rw [l]
    exact (rel.val k).getD rd
end
def tDGet2 (td ty tx:TE):TE:=fun σ H Q=>td σ H fun x H1=>∃ a,x = .ref a∧IsD H1 a∧ty σ H1 fun y H2=>tx σ H2 fun z H3=>∃ o,DGet H3 a y o∧Q (o.getD z) H3
section
variable {X:Cx} {o e f:Expr} {apos cpos:Pos} {td ty tx:TE}
theorem pe_dget2 (hu:X.A.units + 1 < cLine) (ho:PE X o td) (he:PE X e ty) (hf:PE X f tx) (m:M2 X o "get" apos e f cpos):PE X (.Call (.Attribute o "get" apos) [e,f] [] cpos) (tDGet2 td ty tx):=by
  intro pins s σ H Q I h
  refine wpAny_Call_method m.base m.few m.line PySem.F.plainAttrs_dict PySem.F.slot_dict_get PySem.F.type_dict_get (thn (ho pins s σ H _ I h) fun u s1 ⟨x,H1,I1,rx,a,ex,d,q1⟩=>?_)
  subst ex
  obtain rfl:u = Value.ref a:=rx
  obtain ⟨t1,t2,_⟩:=isD_at I1 d
  refine ⟨t1,t2,?_⟩
  rw [m.trees]
  refine Calls.callWith_builtin rfl (Calls.evalArgs_plain (Calls.spliced_cons (thn (he pins s1 σ H1 _ I1 q1) fun iv s2 ⟨y,H2,I2,ry,q2⟩ =>
    Calls.spliced_cons (thn (hf pins s2 σ H2 _ I2 q2) fun fv s3 ⟨z,H3,I3,rz,ov,g,q3⟩=>Calls.spliced_nil ?_))))
  exact d_get2 hu I3 g ry rz fun w' s4 I4 rw'=>⟨_,H3,I4,rw',q3⟩
end
section
variable {X:Cx} {pins:List (Addr × Obj)} {σ:St} {H:Hp} {s:Shared} {a:Addr} {kvs:List (Key × V)} {A:Around} {E:Value→Shared→Prop}
end
section
variable {X:Cx} {pins:List (Addr × Obj)} {σ:St} {H:Hp} {s:Shared} {a:Addr} {y:V} {u:Value} {A:Around} {E:Value→Shared→Prop}
end
end L2
namespace Att
open PySem PySem.W PySem.Calls PyProof.Rows
theorem ints_of_wellAll {P:Params} {h:Heap}:∀ (ns:List Int) (vs:List Value),WellAll P h vs (ns.map WData.int)→IntsAre vs ns:=by
  intro ns
  induction ns with
  | nil =>
    intro vs w
    rw [List.map_nil] at w
    cases w
    exact .nil
  | cons n ns ih =>
    intro vs w
    rw [List.map_cons] at w
    cases w with
    | cons a b =>
      cases a
      exact .cons _ _ (ih _ b)
theorem script_of {l:OpenLaw} {n:Nat} (hn:l.most = some n) {P:Params} {h:Heap} {args:List WData} {vals:List Value}
    (hpre:l.row.toRowW.claim.pre args = true) (hwl:WellAll P h vals args) :
    ∃ a vs ns,vals = [Value.ref a]∧args = [WData.list (ns.map WData.int)]∧h.get? a = some { cls:=.type "list",data:=.seq vs.toArray }∧IntsAre vs ns∧ns.length≤n:=by
  have hsh:WShape.hasAll [] args [.list .int] = true:=(pre_splitW hpre).1
  have hc:l.pre.holds [] { args:=args } = true:=(pre_splitW hpre).2
  obtain ⟨d,r,rfl,h1,h2⟩:=hasAllW_cons hsh
  obtain rfl:=hasAllW_nil h2
  obtain ⟨xs,rfl,h3⟩:=hasW_list h1
  obtain ⟨ns,rfl⟩:=items_int h3
  have hlen:ns.length≤n:=by
    unfold OpenLaw.pre at hc
    have h4:(WTm.not (.lt (.lit (.int (n:Int))) (.len (.arg 0)))).holds [] { args:=[.list (ns.map .int)] } = true:=by
      have h4:=(holds_andW hc).1
      rw [hn] at h4
      exact h4
    have h5:=condW_of h4 (w_not (w_lt w_lit (w_len_list (w_arg rfl))))
    rw [List.length_map] at h5
    refine Nat.le_of_not_lt fun q=>?_
    have q':(n:Int) < ((ns.length:Nat):Int):=by omega
    first
      | (rw [decide_eq_true q'] at h5; exact absurd h5 (by decide))
      | (simp at h5; omega)
  cases hwl with
  | cons w1 w2 =>
    cases w2
    cases w1 with
    | list ho hall=>exact ⟨_,_,ns,rfl,rfl,ho,ints_of_wellAll ns _ hall,hlen⟩
theorem post_true (l:OpenLaw) (args:List WData):l.row.toRowW.claim.post args (.bool true) args = true :=
  postW_of (r:=l.row.toRowW) (X:=(true == true))
    (show WShape.has [] (.bool true) .bool = true by first | rfl | decide | simp [WShape.has,WShape.arms,WShape.armsAll])
    (show (WTm.eq .res (.lit (.bool true))).value [] { args:=args,res:=some (.bool true),after:=args } = some (.bool (true == true)) from w_eq_bool (w_res rfl) w_lit) rfl
theorem attach_call {l:OpenLaw} {n:Nat} {q:Program} {loose:List Str} {XP:(Str→Option Value)→Heap→Prop} {YP:World→Heap→Prop} {d:DefRec}
    (hn:l.most = some n) (hdf:d.params.defaults = [])
    (call:∀ (w:World) (s₀ s₁:Shared) (mg mb:Str→Option Value) (fa:Addr) (o:Obj) (pm cd doc:Value) (a:Addr) (vs:List Value) (ns:List Int),
      Ground q loose [] XP w s₀ mg mb s₁.heap→YP w s₁.heap →
      s₁.heap.get? fa = some o→o.data = .func (docDef d.name d.params d.body d.scope pm cd doc)→s₁.heap.CodeRec cd d.name→mg d.name = some (.ref fa) →
      s₁.heap.get? a = some { cls:=.type "list",data:=.seq vs.toArray }→IntsAre vs ns→ns.length≤n→s₁.gens = #[] →
      codeAny (model l.prog w) callerA (.call (.ref fa) ⟨[.ref a],[]⟩) (fun r s'=>r = .ok (.ret (.bool true))∧OldK s₁.heap s'.heap∧s'.os = s₁.os∧AllBare s'.gens) s₁) :
    WalkO q loose XP YP l.row.toRowW d [] (fun f vs=>PySem.call f vs):=by
  intro w s₀ s₁ mg mb G Y fa o pm cd doc dV kV ho hd hcd hD hmg hg args vals as hpre hlay hrd hwl hlo
  obtain rfl:dV = .none:=Dflts.none hD hdf
  obtain rfl:kV = .none:=Dflts.noKw hD
  obtain ⟨a,vs,ns,rfl,rfl,hobj,hints,hlen⟩:=script_of hn hpre hwl
  refine enter_call (codeAny_mono (call w s₀ s₁ mg mb fa o pm cd doc a vs ns G Y ho (fd_plain hd) hcd hmg hobj hints hlen hg) fun r s' hq=>?_)
  obtain ⟨rfl,h2,h3,h4⟩:=hq
  exact ⟨.inl ⟨.bool true,.bool true,[],rfl,fun _=>rfl,.bool true,post_true l _,fun _=>⟨List.Pairwise.nil,fun _ hm=>(nomatch hm)⟩⟩,h2,h3,h4⟩
section
variable {prog:Program} {w:World} {A:Around} {E:Value→Shared→Prop} {s:Shared} {K:Frag}
end
end Att
namespace L2
open PySem PySem.Spec PyProof.Rows
theorem vals_ints:∀ {vs:List Value} {ns:List Int},IntsAre vs ns→Vals (ns.map V.int) vs
  | _,_,.nil=>.nil
  | _,_,.cons n t h=>.cons ⟨t,rfl⟩ (vals_ints h)
def Only (H:Hp):Prop:=∀ b,H b = none∨∃ o xs,H b = some (.frz o (.lst xs))
theorem law_call {P:Program} {w:World} {K:PySem.W.Frag} {mg mb:Str→Option Value} {CX:CXT} {k:Nat} {fa a:Addr} {fd:FuncData} {x:Str} {sp:Sp} {s₁:Shared} {vs:List Value} {ns:List Int}
    (KX:K.In s₁.heap) (hns:s₁.heap.Ns mainGlobals mg) (hb:s₁.heap.Ns builtinsNs mb) (hbb:∀ x:Str,x ≠ "__name__" → mb x = bootBuiltins x) (hlim:s₁.heap.NoLimit) (hg:s₁.gens = #[])
    (ha:s₁.heap.get? a = some { cls:=.type "list",data:=.seq vs.toArray }) (hi:IntsAre vs ns) (hl:ns.length≤sizeLine) (hr:Room k callerA)
    (F:∀ base:Heap,K.In base→base.Ns mainGlobals mg→FnOk P w K mg base CX k fa fd [x] sp) (hbind:∀ (s:Shared) (u:Value),BindsTo s fd ⟨[u],[]⟩ [(x,u)])
    (hsp:∀ H:Hp,Only H→SqL K H a (ns.map V.int)→sp [.ref a] H (fun v _=>v = .bl true) fun _ _ _=>False)
    (hCX:∀ H e s',CX [] H s₁ (fun _ _ _=>False) e s'→False) :
    codeAny (model P w) callerA (.call (.ref fa) ⟨[.ref a],[]⟩) (fun r s'=>r = .ok (.ret (.bool true))∧OldK s₁.heap s'.heap∧s'.os = s₁.os∧AllBare s'.gens) s₁:=by
  have rv:=vals_ints hi
  have lenV:=hi.length
  have core:∀ H:Hp,Only H→SqL K H a (ns.map V.int)→HOk P w H s₁.heap→(∀ b,H b≠none→b = a)→(H a≠none→K.lookup a = none) →
      codeAny (model P w) callerA (.call (.ref fa) ⟨[.ref a],[]⟩) (fun r s'=>r = .ok (.ret (.bool true))∧OldK s₁.heap s'.heap∧s'.os = s₁.os∧AllBare s'.gens) s₁:=by
    intro H hO hS hok hA hK
    have base_of:∀ {b:Addr} {o:Obj},s₁.heap.get? b = some o→H b = none→(hidT s₁.heap H).get? b = some o:=fun e n=>hidT_get e n
    have noA:∀ {b:Addr} {o:Obj} {es:Array DictEntry} {ep:Nat},s₁.heap.get? b = some o→o.data = .dict es ep→H b = none:=fun {b o es ep} e d=>by
      cases q:H b with
      | none=>rfl
      | some u =>
        have e':b = a:=hA b (by rw [q]; simp)
        subst e'
        rw [ha] at e; cases e
        have d':Data.seq vs.toArray _ = Data.dict es ep:=d
        cases d'
    have nsK:∀ {b:Addr} {m:Str→Option Value},s₁.heap.Ns b m→(hidT s₁.heap H).Ns b m:=fun {b m} ⟨o,es,ep,e,d,r⟩=>⟨o,es,ep,base_of e (noA e d),d,r⟩
    have hKb:K.In (hidT s₁.heap H):=fun b o e=>base_of (KX b o e) (by
      cases q:H b with
      | none=>rfl
      | some u =>
        have e':b = a:=hA b (by rw [q]; simp)
        subst e'
        rw [hK (by rw [q]; simp)] at e; cases e)
    have hM:Mod K mg (hidT s₁.heap H):=⟨hKb,nsK hns,⟨mb,nsK hb,hbb⟩,let ⟨mc,h1,h2⟩:=hlim; ⟨mc,nsK h1,h2⟩⟩
    have e0:Env0 P w K mg (hidT s₁.heap H) callerA [] s₁ H:=⟨rfl,hM,fun b o e=>of_hidT e,Nat.le_of_eq (hidT_size _ _),trivial,fun b hb=>absurd (show b∈([]:List Addr) from hb) (by simp),hok,.of_eq hg⟩
    refine codeAny_mono ((F _ hKb (nsK hns)).run callerA [] s₁ H ⟨[.ref a],[]⟩ [.ref a] [.ref a] _ _ hr e0 (hbind s₁ (.ref a)) (.cons rfl .nil) (hsp H hO hS)) fun r s' h=>?_
    cases r with
    | error e=>exact (hCX H e s' h).elim
    | ok fl =>
      cases fl with
      | next=>exact False.elim h
      | brk=>exact False.elim h
      | cont=>exact False.elim h
      | ret u =>
        obtain ⟨v,H',os,bare,un,hok',r',q⟩:=h
        have q':v = .bl true:=q
        subst q'
        obtain rfl:u = Value.bool true:=r'
        refine ⟨rfl,OldK.of_keep fun b o e=>?_,os,bare⟩
        cases q:H b with
        | none=>exact un.keep b o e q (by intro z; exact absurd (show b∈([]:List Addr) from z) (by simp)) (by simp)
        | some u =>
          rcases hO b with z | ⟨ob,xs,z⟩
          · rw [q] at z; cases z
          · have z2:=un.frzs b ob _ z
            obtain ⟨e1,_⟩:=hok b _ z
            obtain ⟨e2,_⟩:=hok' b _ z2
            rw [e] at e1; cases e1
            exact e2
  cases hk:K.lookup a with
  | some o =>
    have e:=KX a o hk
    rw [ha] at e
    cases e
    refine core (fun _=>none) (fun _=>.inl rfl) (.inr ⟨_,vs.toArray,_,hk,rfl,rfl,rfl,by rw [List.size_toArray,lenV]; exact hl,by simpa using rv⟩) (fun b u z=>by have z':(none:Option HO) = some u:=z; cases z') (fun b z=>absurd rfl z) fun z=>absurd rfl z
  | none =>
    refine core (fun b=>if b = a then some (.frz { cls:=.type "list",data:=.seq vs.toArray } (.lst (ns.map V.int))) else none) (fun b=>?_) (.inl (.inr ⟨{ cls:=.type "list",data:=.seq vs.toArray },if_pos rfl⟩)) (fun b u z=>?_) (fun b z=>?_) fun _=>hk
    · by_cases hb:b = a
      · exact .inr ⟨_,_,if_pos hb⟩
      · exact .inl (if_neg hb)
    · by_cases hb:b = a
      · have z':=(if_pos hb).symm.trans z
        cases z'
        subst hb
        exact ⟨ha,by rw [List.length_map]; exact hl,vs,_,rv,ha⟩
      · have z':=(if_neg hb).symm.trans z
        cases z'
    · by_cases hb:b = a
      · exact hb
      · exact absurd (if_neg hb) z
end L2
namespace L2
open PySem PySem.Spec PyProof.Rows
theorem walk_of {l:PySem.W.OpenLaw} {n k:Nat} {q:Program} {loose:List Str} {XP:(Str→Option Value)→Heap→Prop} {YP:World→Heap→Prop} {d:DefRec} {K:Params→PySem.W.Frag} {CX:World→CXT} {sp:World→Sp} {x:Str}
    (hn:l.most = some n) (hn2:n≤sizeLine) (hdf:d.params.defaults = []) (hr:Room k callerA)
    (hY:∀ (w:World) (h:Heap),YP w h→(K w.params).In h)
    (F:∀ (w:World) (mg:Str→Option Value) (fa:Addr) (h:Heap),(K w.params).In h→h.Ns mainGlobals mg→mg d.name = some (.ref fa) →
      ∃ fd:FuncData,(∀ (s:Shared) (u:Value),BindsTo s fd ⟨[u],[]⟩ [(x,u)]) ∧
        ∀ base:Heap,(K w.params).In base→base.Ns mainGlobals mg→FnOk l.prog w (K w.params) mg base (CX w) k fa fd [x] (sp w))
    (hsp:∀ (w:World) (H:Hp) (a:Addr) (ns:List Int),ns.length≤n→Only H→SqL (K w.params) H a (ns.map V.int)→sp w [.ref a] H (fun v _=>v = .bl true) fun _ _ _=>False)
    (hCX:∀ (w:World) (H:Hp) (s:Shared) (e:Value) (s':Shared),CX w [] H s (fun _ _ _=>False) e s'→False) :
    PySem.W.WalkO q loose XP YP l.row.toRowW d [] (fun f vs=>PySem.call f vs):=by
  refine Att.attach_call hn hdf fun w s₀ s₁ mg mb fa o pm cd doc a vs ns G Y ho hd hcd hmg hobj hints hlen hg=>?_
  have KX:=hY w _ Y
  obtain ⟨fd,hb,hF⟩:=F w mg fa _ KX G.T.g hmg
  exact law_call KX G.T.g G.T.b G.T.builtins G.T.nolimit hg hobj hints (Nat.le_trans hlen hn2) hr hF hb (fun H hO hS=>hsp w H a ns hlen hO hS) fun H e s'=>hCX w H s₁ e s'
end L2
namespace L2
open PySem PySem.Spec PyProof.Rows
abbrev CX0:CXT:=fun _ _ _ _ _ _=>False
abbrev E0:XK:=fun _ _ _=>False
theorem pass0 {X:Cx}:Passes CX0 X E0:=fun _ _ _ _ _ _ _ h=>h.elim
structure Fun (K:PySem.W.Frag) (x qual:Str) (st:Stmt) (f:Addr) (fd:FuncData):Prop where
  ex:∃ (oc:Value) (od:Option Addr) (kV doc pm:Value) (an:Option Addr) (cdv ct:Value) (osl:Array (Option Value)),
    fd = PySem.W.fnOf x qual (defArgs st) (defBody st) (defScope st) .none kV doc pm an cdv ct∧K.lookup f = some ⟨oc,od,.func fd,osl⟩∧PySem.W.codeIn K cdv qual = true
  kp:PySem.W.keepIn K (.ref f) = true
section
variable {P:Program} {w:World} {K:PySem.W.Frag} {mg:Str→Option Value} {base:Heap}
theorem Fun.ok {x qual:Str} {st:Stmt} {f:Addr} {fd:FuncData} {N ps:List Str} {k:Nat} {sp:Sp} (F:Fun K x qual st f fd) (S:FnScope N ps (defScope st)) (len:∀ vs H Q E,sp vs H Q E→vs.length = ps.length)
    (hbody:∀ (cdv:Value) (A:Around) (outer:List Env) (s:Shared) (H:Hp) (vs:List V) (Q:VK) (E:XK),Room k (A.deeper (envOfC qual (defScope st) s.heap.objs.size f cdv))→sp vs H Q E →
      ∃ t,PSs (cxOf CX0 P w K mg base N qual (defScope st) f cdv A outer s H E).nox (defBody st) t∧t { nx:=fun _ H'=>Q .non H',rt:=Q } (start N vs) H):FnOk P w K mg base CX0 (k + 1) f fd ps sp:=by
  obtain ⟨oc,od,kV,doc,pm,an,cdv,ct,osl,rfl,lk,hcd⟩:=F.ex
  refine fn_of lk hcd S len fun A outer s H vs Q E hr hsp=>?_
  obtain ⟨t,h,q⟩:=hbody cdv A outer s H vs Q E hr hsp
  exact ⟨t,h.nox,q⟩
theorem Fun.binds {x qual:Str} {st:Stmt} {f:Addr} {fd:FuncData} {ps:List Str} (F:Fun K x qual st f fd)
    (h:∀ (kV doc pm:Value) (an:Option Addr) (cdv ct:Value) (us:List Value),us.length = ps.length→bindArgs (PySem.W.fnOf x qual (defArgs st) (defBody st) (defScope st) .none kV doc pm an cdv ct) ⟨us,[]⟩ = pure (ps.zip us)):Binds K fd ps []:=by
  obtain ⟨oc,od,kV,doc,pm,an,cdv,ct,osl,rfl,lk,hcd⟩:=F.ex
  exact .all (h kV doc pm an cdv ct)
theorem fun_mk {x qual:Str} {st:Stmt} {f:Addr} {oc:Value} {od an:Option Addr} {osl:Array (Option Value)} {kV doc pm cdv ct:Value} (l:K.lookup f = some ⟨oc,od,.func (PySem.W.fnOf x qual (defArgs st) (defBody st) (defScope st) .none kV doc pm an cdv ct),osl⟩)
    (c:PySem.W.codeIn K cdv qual = true) (k:PySem.W.keepIn K (.ref f) = true):Fun K x qual st f (PySem.W.fnOf x qual (defArgs st) (defBody st) (defScope st) .none kV doc pm an cdv ct):=⟨⟨oc,od,kV,doc,pm,an,cdv,ct,osl,rfl,l,c⟩,k⟩
end
theorem hu_of {A:Around} {k:Nat} (hr:Room k A):A.units + 1 < cLine:=Nat.lt_of_le_of_lt (Nat.add_le_add_left (by decide:1≤64) _) hr.units
section
variable {X:Cx}
theorem pv (i:Nat) {x:Str} {pos:Pos} (hN:X.N[i]? = some x:=by rfl) (hv:Vis X.env.scope x:=by first | exact Or.inl rfl | exact Or.inr (Or.inl rfl) | exact Or.inr (Or.inr rfl)) (hd:(x == ("__debug__" : Str)) = false:=by decide)
    (hcd:(x == ("__classdict__" : Str)) = false:=by decide):PE X (.Name x pos) (tVar i):=pe_var hN hv hd hcd
end
theorem iteF {A B:Prop} (h:B):if false = true then A else B:=by
  rw [if_neg Bool.false_ne_true]
  exact h
theorem iteT {A B:Prop} (h:A):if true = true then A else B:=by
  rw [if_pos rfl]
  exact h
theorem ite2 {c A B:Prop} [Decidable c] (h1:c→A) (h2:¬ c→B):if c then A else B:=by
  by_cases h:c
  · rw [if_pos h]
    exact h1 h
  · rw [if_neg h]
    exact h2 h
theorem iteNS {c A B:Prop} [Decidable c] (hc:c) (h:B):if (!decide c) = true then A else B:=by
  rw [decide_eq_true hc]
  exact iteF h
def Same (H H':Hp):Prop:=∀ b o,H b = some o→H' b = some o
theorem Same.refl (H:Hp):Same H H:=fun _ _ h=>h
theorem Same.trans {H H1 H2:Hp} (a:Same H H1) (b:Same H1 H2):Same H H2:=fun c o h=>b c o (a c o h)
theorem Same.free {H H':Hp} (e:Same H H') {l:Addr} (h:H' l = Option.none):H l = Option.none:=by
  cases q:H l with
  | none=>rfl
  | some o =>
    rw [e l o q] at h
    cases h
theorem Same.seq {K:PySem.W.Frag} {H H':Hp} {a:Addr} {xs:List V} (e:Same H H') (h:SqL K H a xs):SqL K H' a xs:=by
  rcases h with (h | ⟨o,h⟩) | h
  · exact .inl (.inl (e _ _ h))
  · exact .inl (.inr ⟨o,e _ _ h⟩)
  · exact .inr h
section
variable {κ:Type} [DecidableEq κ]
end
end L2
end
section
set_option linter.all false
namespace L2
open PySem
section
variable {env:Env}
theorem clos_go:∀ (l:List (Str × NameKind)) (cs:List (Str × Addr)),(∀ x∈l,x.2 = .free→∃ c,env.cells.lookup x.1 = some c)→(∀ x c,cs.lookup x = some c→env.cells.lookup x = some c) →
    ∃ cl,(forIn l cs (fun x r=>if (x.2 == NameKind.free) = true then do let a ← cellOf env x.1; pure (ForInStep.yield ((x.1,a) :: r)) else pure (ForInStep.yield r)):Sem (List (Str × Addr))) = pure cl ∧
      (∀ x c,cl.lookup x = some c→env.cells.lookup x = some c)∧∀ x,((x,NameKind.free)∈l∨∃ c,cs.lookup x = some c)→∃ c,cl.lookup x = some c
  | [],cs,_,hs=>⟨cs,rfl,hs,fun x h=>h.elim (fun z=>by cases z) id⟩
  | (n,k) :: l,cs,h,hs=>by
    have hl:∀ x∈l,x.2 = .free→∃ c,env.cells.lookup x.1 = some c:=fun x hx=>h x (List.mem_cons_of_mem _ hx)
    rw [List.forIn_cons]
    by_cases hk:k = .free
    · subst hk
      obtain ⟨c,hc⟩:=h (n,.free) (List.mem_cons_self ..) rfl
      obtain ⟨cl,e,h1,h2⟩:=clos_go l ((n,c) :: cs) hl fun x c' z=>by
        by_cases hx:x = n
        · subst hx
          rw [List.lookup_cons_self] at z
          cases z; exact hc
        · have hx':(x == n) = false:=by simpa using hx
          rw [List.lookup_cons,hx'] at z
          exact hs x c' z
      refine ⟨cl,?_,h1,fun x hx=>h2 x ?_⟩
      · have e0:cellOf env n = pure c:=by unfold cellOf; rw [hc]
        simp only [beq_self_eq_true,if_true,e0,pure_bind]
        exact e
      · rcases hx with hx | ⟨c',hx⟩
        · rcases List.mem_cons.mp hx with hx | hx
          · have:x = n:=(Prod.mk.inj hx).1
            subst this
            exact .inr ⟨c,List.lookup_cons_self⟩
          · exact .inl hx
        · by_cases hxn:x = n
          · subst hxn; exact .inr ⟨c,List.lookup_cons_self⟩
          · have hx':(x == n) = false:=by simpa using hxn
            exact .inr ⟨c',by rw [List.lookup_cons,hx']; exact hx⟩
    · obtain ⟨cl,e,h1,h2⟩:=clos_go l cs hl hs
      have hb:(k == NameKind.free) = false:=by simpa using hk
      refine ⟨cl,?_,h1,fun x hx=>h2 x ?_⟩
      · simp only [hb,Bool.false_eq_true,if_false,pure_bind]
        exact e
      · rcases hx with hx | hx
        · rcases List.mem_cons.mp hx with hx | hx
          · exact absurd (Prod.mk.inj hx).2.symm hk
          · exact .inl hx
        · exact .inr hx
theorem closure_of {scope:Scope} (h:∀ x∈scope.names,x.2 = .free→∃ c,env.cells.lookup x.1 = some c) :
    ∃ cl,closureFor scope env = pure cl∧(∀ x c,cl.lookup x = some c→env.cells.lookup x = some c)∧∀ x,(x,NameKind.free)∈scope.names→∃ c,cl.lookup x = some c:=by
  obtain ⟨cl,e,h1,h2⟩:=clos_go scope.names [] h (fun x c z=>by simp at z)
  refine ⟨cl,?_,h1,fun x hx=>h2 x (.inl hx)⟩
  unfold closureFor
  dsimp only
  refine Eq.trans (congrArg (· >>= pure) ?_) (Eq.trans (congrArg (· >>= pure) e) (by simp))
  rfl
end
section
variable {prog:Program} {w:World} {A:Around} {R:Result→Shared→Prop} {s:Shared}
theorem loop_comp {elt target iter:Expr} {ifs:List Expr} {scope:Scope} {pos:Pos} {it acc:Value} {env:Env} (J:Nat→Shared→Prop)
    (turn:∀ n s,J n s→wpAny (model prog w) A (pyNext it) (fun r s1=>match r with
      | none=>R (.ok .next) s1
      | some v=>wpAny (model prog w) A (letOwnedTupleGo target it v) (fun _ s2=>wpAny (model prog w) A (assign target env v) (fun _ s3 =>
          wpAny (model prog w) A (forIn ifs true fun c r=>if r = true then do let ok ← isTrue c env (eval c env); pure (ForInStep.yield ok) else pure (ForInStep.yield r)) (fun ok s4 =>
            if ok = true then wpAny (model prog w) A (eval elt env) (fun x s5=>wpAny (model prog w) A (call (.builtin "list.append") [acc,x]) (fun _ s6=>∃ m,m < n∧J m s6) (fun _ _=>False) s5) (fun _ _=>False) s4
            else ∃ m,m < n∧J m s4) (fun _ _=>False) s3) (fun _ _=>False) s2) (fun _ _=>False) s1) (fun _ _=>False) s)
    (n:Nat) (h:J n s):codeAny (model prog w) A (.compLoop (.ListComp elt [⟨target,iter,ifs,0⟩] scope pos) 0 it acc env) R s:=by
  refine codeAny_loop rfl J (fun n s hJ=>?_) n h
  show wpAny _ A ((compTurn (.ListComp elt [⟨target,iter,ifs,0⟩] scope pos) 0 it acc env).onRaise (fun x=>noteFrame x env >>= fun _=>theTreesLotGoes x)) _ _ s
  refine wpAny_noted ?_
  have no:∀ {α:Type} {t:Sem α} {Q:α→Shared→Prop} {E:Value→Shared→Prop} {s:Shared},wpAny (model prog w) A t Q (fun _ _=>False) s→wpAny (model prog w) A t Q E s:=fun h=>wpAny_mono h (fun _ _ q=>q) fun _ _ f=>f.elim
  rw [compTurn_list]
  refine wpAny_bind (wpAny_standAt (wpAny_bind (no (wpAny_mono (turn n s hJ) (fun r s1 h1=>?_) fun _ _ f=>f))))
  cases r with
  | none=>exact wpAny_pure h1
  | some v =>
    refine wpAny_bind (no (wpAny_mono h1 (fun _ s2 h2=>?_) fun _ _ f=>f))
    refine wpAny_bind (no (wpAny_mono h2 (fun _ s3 h3=>?_) fun _ _ f=>f))
    refine wpAny_bind (no (wpAny_mono h3 (fun ok s4 h4=>?_) fun _ _ f=>f))
    cases ok with
    | false=>exact wpAny_pure ⟨rfl,h4⟩
    | true =>
      refine wpAny_bind (wpAny_bind (no (wpAny_mono h4 (fun x s5 h5=>?_) fun _ _ f=>f)))
      exact wpAny_bind (no (wpAny_mono h5 (fun _ s6 h6=>wpAny_pure (wpAny_pure ⟨rfl,h6⟩)) fun _ _ f=>f))
end
end L2
end
section
set_option Elab.async false
set_option linter.all false
set_option maxRecDepth 100000
set_option maxHeartbeats 1000000
namespace L2
open PySem PySem.Spec PyProof.Rows
theorem HOk.track {P:Program} {w:World} {H:Hp} {h:Heap} {a:Addr} {o:HO} (x:HOk P w H h) (hn:H a = none) (new:ObjOk P w (upd H a o) h a o):HOk P w (upd H a o) h:=fun b u e=>by
  by_cases hb:b = a
  · subst hb; rw [upd_same] at e; cases e; exact new
  · rw [upd_ne hb] at e
    refine (x b u e).stay (fun c v _ q=>q) (fun c q=>?_) fun c xs q=>?_
    · rw [upd_ne (ne_of_none q hn)]; exact q
    · rw [upd_ne (ne_of_none q hn)]; exact q
theorem HOk.but {P:Program} {w:World} {H:Hp} {h h':Heap} {C:Addr} (x:HOk P w H h) (hn:H C = none) (k:∀ b u,b≠C→h.get? b = some u→h'.get? b = some u):HOk P w H h':=fun b u e=>by
  refine (x b u e).stay (fun c v hc q=>k c v ?_ q) (fun _ q=>q) fun _ _ q=>q
  rintro rfl
  rcases hc with z | z
  · rw [z,e] at hn; cases hn
  · rw [z] at hn; cases hn
theorem relabel_free {env:Env}:∀ {names:List (Str × NameKind)} {x:Str},names.lookup x = some .free →
    (names.map fun (n,k)=>if (k == NameKind.free && env.scope.kind == .function && env.kindOf n == some .cell) then (n,NameKind.cell) else (n,k)).lookup x = some .cell ∨
    (names.map fun (n,k)=>if (k == NameKind.free && env.scope.kind == .function && env.kindOf n == some .cell) then (n,NameKind.cell) else (n,k)).lookup x = some .free
  | [],_,h=>by simp at h
  | (n,k) :: r,x,h=>by
    rw [List.map_cons]
    cases hx:x == n with
    | true =>
      rw [List.lookup_cons,hx] at h
      cases h
      dsimp only
      split
      · left; rw [List.lookup_cons,hx]
      · right; rw [List.lookup_cons,hx]
    | false =>
      rw [List.lookup_cons,hx] at h
      have ih:=relabel_free (env:=env) h
      dsimp only
      split
      · rw [List.lookup_cons,hx]; exact ih
      · rw [List.lookup_cons,hx]; exact ih
theorem relabel_inv {env:Env}:∀ {names:List (Str × NameKind)} {x:Str} {k':NameKind},(k' = .cell∨k' = .free) →
    (names.map fun (n,k)=>if (k == NameKind.free && env.scope.kind == .function && env.kindOf n == some .cell) then (n,NameKind.cell) else (n,k)).lookup x = some k'→∃ k,(x,k)∈names∧(k = .cell∨k = .free)
  | [],_,_,_,h=>by simp at h
  | (n,k) :: r,x,k',hk,h=>by
    rw [List.map_cons] at h
    cases hx:x == n with
    | true =>
      have e:x = n:=by simpa using hx
      subst e
      dsimp only at h
      split at h
      · rename_i hc
        have:k = .free:=by
          rw [Bool.and_eq_true,Bool.and_eq_true] at hc
          simpa using hc.1.1
        exact ⟨k,List.mem_cons_self ..,.inr this⟩
      · rw [List.lookup_cons,hx] at h
        cases h
        exact ⟨k,List.mem_cons_self ..,hk⟩
    | false =>
      have h':(r.map fun (n,k)=>if (k == NameKind.free && env.scope.kind == .function && env.kindOf n == some .cell) then (n,NameKind.cell) else (n,k)).lookup x = some k':=by
        dsimp only at h
        split at h
        · rw [List.lookup_cons,hx] at h; exact h
        · rw [List.lookup_cons,hx] at h; exact h
      obtain ⟨k0,h0,h1⟩:=relabel_inv (env:=env) hk h'
      exact ⟨k0,List.mem_cons_of_mem _ h0,h1⟩
def cxComp (X:Cx) (N:List Str) (scope:Scope) (cl:List (Str × Addr)) (C:Addr) (s:Shared) (H:Hp) (ex:List Addr):Cx where
  prog:=X.prog
  w:=X.w
  K:=X.K
  mg:=X.mg
  base:=X.base
  A:=X.A
  N:=N
  s₀:=s
  H₀:=H
  env:=compEnvC scope cl C X.env
  outer:=X.stack
  stack:=X.stack
  ex:=ex
  fn:=fun _=>false
  calm:=X.calm
  pn:=[]
  xe:=fun _ _=>False
structure CompScope (sc:Scope) (XN N:List Str) (scope:Scope) (caps:List Nat):Prop where
  kind:scope.kind = .function
  nd:N.Nodup
  nocell:∀ y∈scope.names,y.2≠.cell
  names:∀ y∈scope.names,y.2 = .local→scope.names.lookup y.1 = some .local
  free:∀ y∈scope.names,y.2 = .free→sc.names.lookup y.1 = some .cell∨sc.names.lookup y.1 = some .free
  cap:∀ (i:Nat),i < caps.length→∃ x,N[i]? = some x∧XN[caps.getD i 0]? = some x∧scope.names.lookup x = some .free∧(sc.names.lookup x = some .cell∨sc.names.lookup x = some .free)
  len:caps.length≤N.length
def capStart (caps:List Nat) (n:Nat) (σ:St):St:=caps.map (fun j=>(σ[j]?).join) ++ List.replicate (n - caps.length) none
def PF (X:Cx) (ifs:List Expr) (tc:TT):Prop :=
  ∀ (pins:List (Addr × Obj)) (s:Shared) (σ:St) (H:Hp) (Q:Bool→Hp→Prop),Inv X pins σ H s→tc σ H Q →
    wpAny (model X.prog X.w) X.A (forIn ifs true fun c r=>if r = true then do let ok ← isTrue c X.env (eval c X.env); pure (ForInStep.yield ok) else pure (ForInStep.yield r)) (TP X pins σ Q) X.xe s
def tYes:TT:=fun _ H Q=>Q true H
theorem pf_nil {X:Cx}:PF X [] tYes:=fun pins s σ H Q I h=>by
  rw [List.forIn_nil]
  exact wpAny_pure ⟨H,I,h⟩
theorem pf_one {X:Cx} {c:Expr} {tc:TT} (hc:PT X c tc):PF X [c] tc:=fun pins s σ H Q I h=>by
  rw [List.forIn_cons]
  refine wpAny_bind ?_
  rw [if_pos rfl]
  refine wpAny_bind (thn (hc pins s σ H Q I h) fun ok s1 q=>wpAny_pure ?_)
  show wpAny _ _ (forIn [] ok _) _ _ _
  rw [List.forIn_nil]
  exact wpAny_pure q
def tComp (wi:TI) (g:TG) (tc:TT) (te:TE) (caps:List Nat) (n:Nat):TE:=fun σ H Q=>wi σ H fun J H1=>∃ W:Nat→Nat→List V→St→Hp→Prop,(∃ m,W 0 m [] (capStart caps n σ) H1)∧∀ i m acc σ' H',W i m acc σ' H' →
  (J.stop i H'∧∀ D,H' D = none→Q (.ref D) (upd H' D (.lst acc))) ∨
  (J.go i H'∧acc.length < sizeLine∧∀ x H2,J.yld i H' x H2→g x σ' H2 fun σ2 H3=>tc σ2 H3 fun b H4=>if b = true then te σ2 H4 fun y H5=>∃ m',m' < m∧W (i + 1) m' (acc ++ [y]) σ2 H5 else ∃ m',m' < m∧W (i + 1) m' acc σ2 H4)
section
variable {X:Cx} {pins:List (Addr × Obj)} {σ:St} {H:Hp} {s:Shared} {N:List Str} {scope:Scope} {cl:List (Str × Addr)} {C:Addr} {fp:List Addr} {caps:List Nat}
theorem comp_ok (I:Inv X pins σ H s) (S:CompScope X.env.scope X.N N scope caps) (h1:∀ x c,cl.lookup x = some c→X.env.cells.lookup x = some c) (h2:∀ x,(x,NameKind.free)∈scope.names→∃ c,cl.lookup x = some c)
    (hC:s.heap.objs.size≤C) (hf:∀ b∈fp,FpOk X pins H b) (hfo:∀ b∈fp,b < s.heap.objs.size):(cxComp X N scope cl C s H fp).Ok where
  mod:=I.ok.mod
  kind:=S.kind
  glob:=I.ok.glob
  blt:=I.ok.blt
  above:=hC
  inj:=fun x y c a b=>I.ok.inj x y c (h1 x c a) (h1 y c b)
  has:=fun x hx=>by
    have hx':∃ k',(k' = NameKind.cell∨k' = .free)∧(relabel scope X.env).names.lookup x = some k':=by
      rcases hx with z | z
      · exact ⟨_,.inl rfl,z⟩
      · exact ⟨_,.inr rfl,z⟩
    obtain ⟨k',hk,z⟩:=hx'
    obtain ⟨k,m,e⟩:=relabel_inv hk z
    rcases e with e | e
    · exact absurd e (S.nocell _ m)
    · subst e; exact h2 x m
  cab:=fun x c z=>by cases z
  hd:=I.ok.hd
  frames:=I.ok.frames
  stk:=.inl rfl
  exf:=fun b hb=>by
    obtain ⟨_,_,_,_,f4,_⟩:=hf b hb
    exact ⟨Nat.ne_of_lt (Nat.lt_of_lt_of_le (hfo b hb) hC),fun x c e=>f4 x c (h1 x c e)⟩
  bs:=I.bs
  bsz:=Nat.le_trans I.ok.bsz I.sz
  noex:=fun b o e hb=>by
    obtain ⟨_,_,_,f3,_⟩:=hf b hb
    rcases f3 with z | z
    · exact I.ok.noex b o e z
    · exact absurd (Nat.lt_of_lt_of_le (Heap.lt_size e) (Nat.le_trans I.ok.bsz z)) (Nat.lt_irrefl _)
  exfs:=fun b hb z=>by
    obtain ⟨_,f1,f2,_⟩:=hf b hb
    rcases List.mem_cons.mp (I.stkSub b z) with e | e
    · exact f1 e
    · exact f2 e
  funs:=I.stack
  frf:=I.stkFree
theorem comp_start {h1:Heap} {D:Addr} {od:Obj} {t:Nat} {m:Str→Option Value} (I:Inv X pins σ H s) (ok:(cxComp X N scope cl C s H fp).Ok) (S:CompScope X.env.scope X.N N scope caps)
    (hcl:∀ x c,cl.lookup x = some c→X.env.cells.lookup x = some c) (hcl2:∀ x,(x,NameKind.free)∈scope.names→∃ c,cl.lookup x = some c)
    (keep:∀ b o,s.heap.get? b = some o→h1.get? b = some o) (hn:h1.Ns C m) (hC:s.heap.objs.size≤C) (hD:h1.get? D = some od) (hDs:s.heap.objs.size≤D) (hDC:D≠C) (hdc:∀ v,od.data≠.cell v) :
    Inv (cxComp X N scope cl C s H fp) [(D,od)] (capStart caps N.length σ) H { s with heap:=h1,toks:=t }:=by
  have cellK:∀ x c,cl.lookup x = some c→∀ v,s.heap.IsCell c v→h1.IsCell c v:=fun x c e v ⟨o,ho,hd⟩=>⟨o,keep c o ho,hd⟩
  refine ⟨ok,rfl,I.bare,Un.kept keep,⟨m,hn,fun i x v e1 e2 e3=>?_⟩,fun x c e=>?_,I.hok.fresh hC,fun x c e=>I.freeC x c (hcl x c e),fun p hp=>?_,I.hok.kept keep,?_⟩
  · have hi:i < caps.length:=by
      by_cases hi:i < caps.length
      · exact hi
      · exfalso
        unfold capStart at e2
        rw [List.getElem?_append_right (by simpa using hi),List.getElem?_replicate] at e2
        split at e2 <;> cases e2
    obtain ⟨y,y1,y2,y3,y4⟩:=S.cap i hi
    have exy:x = y:=by
      have e1':N[i]? = some x:=e1
      rw [y1] at e1'; exact (Option.some.inj e1').symm
    subst exy
    have e4:σ[caps.getD i 0]? = some (some v):=by
      unfold capStart at e2
      rw [List.getElem?_append_left (by simpa using hi),List.getElem?_map] at e2
      have:caps[i]? = some (caps.getD i 0):=by rw [List.getD_eq_getElem?_getD]; simp [hi]
      rw [this] at e2
      have e2':(σ[caps.getD i 0]?).join = some v:=by simpa using e2
      cases q:σ[caps.getD i 0]? with
      | none=>rw [q] at e2'; cases e2'
      | some z=>rw [q] at e2'; have:z = some v:=e2'; rw [this]
    obtain ⟨m',_,hl⟩:=I.loc
    obtain ⟨u,r,l⟩:=hl _ x v y2 e4 (y4.elim (fun z=>.inr (.inl z)) fun z=>.inr (.inr z))
    refine ⟨u,r,?_⟩
    have nl:X.env.kindOf x≠some .local:=by
      rcases y4 with z | z
      · show X.env.scope.names.lookup x≠_; rw [z]; decide
      · show X.env.scope.names.lookup x≠_; rw [z]; decide
    rcases l with ⟨k,_⟩ | ⟨_,c,hc,z⟩
    · exact absurd k nl
    · obtain ⟨c',hc'⟩:=hcl2 x (PySem.mem_of_lookup y3)
      have:c = c':=Option.some.inj (hc.symm.trans (hcl x c' hc'))
      subst this
      refine .inr ⟨?_,c,hc',cellK x c hc' _ z⟩
      exact relabel_free (env:=X.env) y3
  · obtain ⟨v,z⟩:=I.cell x c (hcl x c e)
    exact ⟨v,cellK x c e v z⟩
  · have:p = (D,od):=by
      have hp':p∈[(D,od)]:=hp
      simpa using hp'
    subst this
    refine ⟨hD,I.hok.fresh hDs,hDC,fun z=>?_,hdc⟩
    have z':D∈frs X.stack:=z
    obtain ⟨_,o,ho,_⟩:=I.stack.mem z'
    exact absurd (Nat.lt_of_lt_of_le (Heap.lt_size ho) hDs) (Nat.lt_irrefl _)
  · unfold capStart
    show _ = N.length
    rw [List.length_append,List.length_map,List.length_replicate]
    have:=S.len
    omega
end
section
variable {X:Cx}
theorem pe_comp {tg iter elt:Expr} {ifs:List Expr} {scope:Scope} {pos:Pos} {wi:TI} {g:TG} {tc:TT} {te:TE} {N:List Str} {caps:List Nat} (hc:X.calm = true) (S:CompScope X.env.scope X.N N scope caps)
    (hi:PI X tg iter wi) (hg:∀ cl C s H ex,PG (cxComp X N scope cl C s H ex) tg g) (hf:∀ cl C s H ex,PF (cxComp X N scope cl C s H ex) ifs tc) (he:∀ cl C s H ex,PE (cxComp X N scope cl C s H ex) elt te)
    (hs:∀ x,foldedSetIterable iter X.env x = pure x:=by intro _; rfl):PE X (.ListComp elt [⟨tg,iter,ifs,0⟩] scope pos) (tComp wi g tc te caps N.length):=by
  intro pins s σ H Q I h
  obtain ⟨cl,hcl,hcl1,hcl2⟩:=closure_of (env:=X.env) (scope:=scope) fun y hy e=>I.ok.has y.1 (S.free y hy e)
  rw [eval_ListComp]
  refine wpAny_comprehension_free (use:=none) rfl hs hcl S.kind S.names (thn (hi pins s σ H _ I h) fun v s1 h1=>thn h1 fun itv s2 h2=>?_)
  obtain ⟨it,fp,tn,J,H2,e,I2,T,st2,f2,W,⟨m0,w0⟩,turn⟩:=h2
  subst e
  refine wpAny_newObj_type (wpAny_newFunctionEnv S.nocell (by intro y hy; simp at hy) (fun h₁ hns hsb=>?_) S.kind)
  dsimp only at hns hsb ⊢
  generalize hG:s2.heap.push { cls:=.type "list",dict:=none,data:=.seq ([]:List Value).toArray } = G at hns hsb ⊢
  have hCs:G.objs.size = s2.heap.objs.size + 1:=by rw [← hG,Heap.size_push]
  have hDC:s2.heap.objs.size≠G.objs.size:=by rw [hCs]; exact Nat.ne_of_lt (Nat.lt_succ_self _)
  have old:∀ b o,s2.heap.get? b = some o→h₁.get? b = some o:=fun b o e=>by
    have hb:=Heap.lt_size e
    refine hsb.extBut b o (by rw [hCs]; exact Nat.ne_of_lt (Nat.lt_succ_of_lt hb)) (Heap.get?_push_of_some _ ?_)
    rw [← hG]
    exact Heap.get?_push_of_some _ e
  have hD:h₁.get? s2.heap.objs.size = some { cls:=.type "list",dict:=none,data:=.seq ([]:List Value).toArray }:=by
    refine hsb.extBut _ _ hDC (Heap.get?_push_of_some _ ?_)
    rw [← hG]
    exact Heap.get?_push_size _ rfl
  have hfo:∀ b∈fp,b < s2.heap.objs.size:=fun b hb=>let ⟨o,e,_⟩:=T.obj 0 _ st2 b hb; Heap.lt_size e
  have hCle:s2.heap.objs.size≤G.objs.size:=by omega
  have ok:=comp_ok (C:=G.objs.size) I2 S hcl1 hcl2 hCle f2 hfo
  have I0:Inv (cxComp X N scope cl G.objs.size s2 H2 fp) [(s2.heap.objs.size,{ cls:=.type "list",dict:=none,data:=.seq ([]:List Value).toArray })] (capStart caps N.length σ) H2 { s2 with heap:=h₁,toks:=s2.toks + ([]:List (Str × Value)).length } :=
    comp_start I2 ok S hcl1 hcl2 old hns hCle hD (Nat.le_refl _) hDC (fun v z=>by cases z)
  have st1:tn 0 h₁:=T.keep 0 _ _ st2 fun b _ o e=>old b o e
  generalize hX:cxComp X N scope cl G.objs.size s2 H2 fp = X' at I0
  generalize hDa:s2.heap.objs.size = D at I0 hD hDC
  have loop:codeAny (model X.prog X.w) X.A (.compLoop (.ListComp elt [⟨tg,iter,ifs,0⟩] scope pos) 0 (.ref it) (.ref D) (compEnvC scope cl G.objs.size X.env)) (compPost (model X.prog X.w) X.A X.xe none (EP X pins σ Q) (.ref D) G.objs.size)
      { s2 with heap:=h₁,toks:=s2.toks + ([]:List (Str × Value)).length }:=by
    subst hX
    refine loop_comp (J:=fun n s'=>∃ i σ' H' acc its e,Inv (cxComp X N scope cl G.objs.size s2 H2 fp) [(D,{ cls:=.type "list",data:=.seq (List.toArray its) e })] σ' H' s'∧Vals acc its∧acc.length≤sizeLine∧tn i s'.heap∧(∀ b∈fp,H' b = none)∧W i n acc σ' H')
      ?_ m0 ⟨0,_,H2,[],[],0,I0,.nil,Nat.zero_le _,st1,fun b hb=>(f2 b hb).1,w0⟩
    rintro n s3 ⟨i,σ3,H3,acc,its,ep,I3,rv,hz,st3,fr3,w3⟩
    have stat:∀ {H':Hp} {pl:List (Addr × Obj)},(∀ b∈fp,H' b = none)→(∀ p∈pl,p.1 = D)→∀ b∈fp,FpOk (cxComp X N scope cl G.objs.size s2 H2 fp) pl H' b:=fun {H' pl} hn hpl b hb=>by
      obtain ⟨a1,a2⟩:=ok.exf b hb
      exact ⟨hn b hb,a1,ok.exfs b hb,.inl hb,fun x c e=>a2 x c e,fun p hp=>by
        have hp':p∈pl:=hp
        rw [hpl p hp',← hDa]
        exact Nat.ne_of_gt (hfo b hb)⟩
    have one:∀ p∈[(D,({ cls:=.type "list",data:=.seq (List.toArray its) ep }:Obj))],p.1 = D:=fun p hp=>by
      rcases List.mem_cons.mp hp with e | e
      · rw [e]
      · cases e
    have pinD:∀ {pl:List (Addr × Obj)} {σ':St} {H':Hp} {s':Shared} {o:Obj},Inv (cxComp X N scope cl G.objs.size s2 H2 fp) pl σ' H' s'→(D,o)∈pl→s'.heap.get? D = some o∧H' D = none:=fun {pl σ' H' s' o} I' hm=>by
      obtain ⟨a,b,_⟩:=I'.pin (D,o) (List.mem_append_right _ hm)
      exact ⟨a,b⟩
    rcases turn i n acc σ3 H3 w3 with ⟨stop,q⟩ | ⟨go,hlt,step⟩
    · refine wpAny_mono (T.done (cxComp X N scope cl G.objs.size s2 H2 fp) rfl rfl rfl hc i _ s3 σ3 H3 (fun _ _=>False) I3 (stat fr3 one) st3 stop) (fun r s4 ⟨hr,I4⟩=>?_) fun _ _ f=>f
      subst hr
      obtain ⟨hDo,hDn⟩:=pinD I4 (List.mem_cons_self ..)
      obtain ⟨m4,hm4,_⟩:=I4.loc
      refine ⟨m4,hm4,fun h' hsb'=>?_⟩
      have keepC:∀ b u,b≠G.objs.size→s4.heap.get? b = some u→h'.get? b = some u:=fun b u hb e=>hsb'.extBut b u hb e
      have un:Un (frs X.stack) fp H2 H3 s2.heap s4.heap:=I4.base
      have hDo':h'.get? D = some { cls:=.type "list",data:=.seq (List.toArray its) ep }:=keepC D _ hDC hDo
      have hlow:∀ b (o:Obj),s2.heap.get? b = some o→b≠G.objs.size∧b≠D:=fun b o e=>by
        have h0:=Heap.lt_size e
        exact ⟨by rw [hCs]; exact Nat.ne_of_lt (Nat.lt_succ_of_lt h0),by rw [← hDa]; exact Nat.ne_of_lt h0⟩
      have un':Un (frs X.stack) fp H2 (upd H3 D (.lst acc)) s2.heap h' :=
        ⟨fun b o e n' hb hx=>keepC b o (hlow b o e).1 (un.keep b o e n' hb hx),
         fun b o e n' hb hx=>let ⟨sl,q⟩:=un.slot b o e n' hb hx; ⟨sl,keepC b _ (hlow b o e).1 q⟩,
         fun b o e n' hx=>by rw [upd_ne (hlow b o e).2]; exact un.free b o e n' hx,
         fun b o e hx=>let ⟨o',q⟩:=un.there b o e hx; ⟨o',keepC b _ (hlow b o e).1 q⟩,
         fun b xs e=>by rw [upd_ne (ne_of_none (un.tups b xs e) hDn)]; exact un.tups b xs e,
         fun b o u e=>by rw [upd_ne (ne_of_none (un.frzs b o u e) hDn)]; exact un.frzs b o u e,
         fun b ps e=>let ⟨mo,q⟩:=un.tbls b ps e; ⟨mo,by rw [upd_ne (ne_of_none q hDn)]; exact q⟩⟩
      have hok:HOk X.prog X.w (upd H3 D (.lst acc)) h':=(I4.hok.but I4.free keepC).track hDn ⟨hz,its,ep,rv,hDo'⟩
      refine ⟨.ref D,upd H3 D (.lst acc),I2.call' (s':={ s4 with heap:=h' }) I4.os un' hok I4.bare (fun b hb=>?_),rfl,q D hDn⟩
      obtain ⟨_,f1,_,f3,f4,f5⟩:=f2 b hb
      exact ⟨f3,f1,f4,f5⟩
    · refine wpAny_mono (T.item (cxComp X N scope cl G.objs.size s2 H2 fp) rfl rfl rfl hc i _ s3 σ3 H3 (fun _ _=>False) I3 (stat fr3 one) st3 go) (fun r s4 ⟨u,hr,h4⟩=>?_) fun _ _ f=>f
      subst hr
      refine thn h4 fun _ s5 ⟨x,H5,I5,r5,y5,st5,fr5⟩=>?_
      have I5':=I5.pinned (stat fr5 one) (T.obj _ _ st5)
      refine thn (hg cl G.objs.size s2 H2 fp _ s5 σ3 H5 x u _ I5' r5 (step x H5 y5)) fun _ s6 ⟨σ6,H6,I6,q6⟩=>?_
      refine thn (hf cl G.objs.size s2 H2 fp _ s6 σ6 H6 _ I6 q6) fun b s7 ⟨H7,I7,q7⟩=>?_
      have fin:∀ {pl:List (Addr × Obj)} {σ':St} {H':Hp} {s':Shared},Inv (cxComp X N scope cl G.objs.size s2 H2 fp) (pl ++ pinsAt fp s5.heap) σ' H' s'→tn (i + 1) s'.heap∧∀ b∈fp,H' b = none:=fun {pl σ' H' s'} I'=>by
        refine ⟨T.keep _ _ _ st5 fun b hb o e=>(I'.pin (b,o) (List.mem_append_right _ (List.mem_append_right _ (mem_pinsAt hb e)))).1,fun b hb=>?_⟩
        obtain ⟨o,e,_⟩:=T.obj _ _ st5 b hb
        exact (I'.pin (b,o) (List.mem_append_right _ (List.mem_append_right _ (mem_pinsAt hb e)))).2.1
      cases b with
      | false =>
        rw [if_neg Bool.false_ne_true] at q7 ⊢
        obtain ⟨m',hm,w7⟩:=q7
        obtain ⟨a1,a2⟩:=fin I7
        exact ⟨m',hm,i + 1,σ6,H7,acc,its,ep,I7.unpinned,rv,hz,a1,a2,w7⟩
      | true =>
        rw [if_pos rfl] at q7 ⊢
        refine thn (he cl G.objs.size s2 H2 fp _ s7 σ6 H7 _ I7 q7) fun y s8 ⟨yv,H8,I8,r8,m',hm,w8⟩=>?_
        obtain ⟨a1,a2⟩:=fin I8
        obtain ⟨b1,b2⟩:=pinD I8 (List.mem_append_left _ (List.mem_cons_self ..))
        have hl:=rv.length
        refine call_meets F.slot_list_append ⟨_,b1,rfl⟩ F.entry_list_append (F.args_list_append_2 _ _) (PySem.list_append D its.toArray ep y (by rw [List.size_toArray]; omega)) ⟨b1,?_⟩
        have q9:=PySem.IsL.update b1 (·.push y)
        have kp:∀ b o,b≠D→s8.heap.get? b = some o→(s8.heap.update D (Obj.mapSeq (·.push y))).get? b = some o:=fun b o hb e=>(Heap.get?_update_other s8.heap (Obj.mapSeq (·.push y)) (Ne.symm hb)).trans e
        have I9:Inv (cxComp X N scope cl G.objs.size s2 H2 fp) [] σ6 H8 { s8 with heap:=s8.heap.update D (Obj.mapSeq (·.push y)) } :=
          (I8.pins_of (pins':=[]) fun p hp=>by cases hp).turned (t':=s8.toks) kp b2 hDC (.inr (by rw [← hDa]; exact Nat.le_refl _)) (fun x c e z=>by
            have e':X.env.cells.lookup x = some c:=hcl1 x c e
            obtain ⟨v',hv'⟩:=I2.cell x c e'
            have h0:=hv'.lt
            rw [z,← hDa] at h0
            exact Nat.lt_irrefl _ h0) fun p hp=>by
              have:p∈([]:List (Addr × Obj)):=hp
              cases this
        have hpu:its.toArray.push y = (its ++ [y]).toArray:=by simp
        rw [hpu] at q9
        obtain ⟨e9,q9⟩:∃ e9,(s8.heap.update D (Obj.mapSeq (·.push y))).get? D = some { cls:=.type "list",data:=.seq (its ++ [y]).toArray e9 }:=⟨_,q9⟩
        refine ⟨m',hm,i + 1,σ6,H8,acc ++ [yv],its ++ [y],e9,I9.pins_of fun p hp=>?_,rv.append (.cons r8 .nil),?_,T.keep _ _ _ a1 fun b hb o e=>kp b o ?_ e,a2,w8⟩
        · obtain rfl:p = (D,{ cls:=.type "list",data:=.seq (its ++ [y]).toArray e9 }):=by
            rcases List.mem_cons.mp hp with e | e
            · exact e
            · cases e
          obtain ⟨_,_,c3,c4,_⟩:=I8.pin (D,_) (List.mem_append_right _ (List.mem_append_left _ (List.mem_cons_self ..)))
          exact ⟨q9,b2,c3,c4,fun v z=>by cases z⟩
        · rw [List.length_append,List.length_singleton]; omega
        · rintro rfl
          have h0:=hfo b hb
          rw [hDa] at h0
          exact Nat.lt_irrefl _ h0
  exact codeAny_compStart_list loop (T.self X.A 0 _ _ _ st1 loop)
end
end L2
end
section
set_option Elab.async false
set_option linter.all false
set_option maxRecDepth 100000
set_option maxHeartbeats 1000000
namespace L2
open PySem PySem.Spec PyProof.Rows
theorem Same.seqT {K:PySem.W.Frag} {H H':Hp} {a:Addr} {xs:List V} (e:Same H H') (h:SqT K H a xs):SqT K H' a xs:=by
  rcases h with (h | ⟨o,h⟩) | h
  · exact .inl (.inl (e _ _ h))
  · exact .inl (.inr ⟨o,e _ _ h⟩)
  · exact .inr h
mutual
def Rep (K:PySem.W.Frag) (H:Hp):PyData→V→Prop
  | .none,v=>v = .non
  | .bool b,v=>v = .bl b
  | .int i,v=>v = .int i
  | .str x,v=>v = .str x
  | .list ds,v=>∃ a xs,v = .ref a∧SqL K H a xs∧Reps K H ds xs
  | .tuple ds,v=>∃ a xs,v = .ref a∧SqT K H a xs∧Reps K H ds xs
  | .dict _,_=>False
def Reps (K:PySem.W.Frag) (H:Hp):List PyData→List V→Prop
  | [],xs=>xs = []
  | d :: ds,xs=>∃ y ys,xs = y :: ys∧Rep K H d y∧Reps K H ds ys
end
mutual
theorem Rep.same {K:PySem.W.Frag} {H H':Hp} (e:Same H H'):∀ (d:PyData) (v:V),Rep K H d v→Rep K H' d v
  | .none,v,h=>h
  | .bool b,v,h=>h
  | .int i,v,h=>h
  | .str x,v,h=>h
  | .list ds,v,h=>by
    obtain ⟨a,xs,h1,h2,h3⟩:=h
    exact ⟨a,xs,h1,e.seq h2,Reps.same e ds xs h3⟩
  | .tuple ds,v,h=>by
    obtain ⟨a,xs,h1,h2,h3⟩:=h
    exact ⟨a,xs,h1,e.seqT h2,Reps.same e ds xs h3⟩
  | .dict _,v,h=>h
theorem Reps.same {K:PySem.W.Frag} {H H':Hp} (e:Same H H'):∀ (ds:List PyData) (xs:List V),Reps K H ds xs→Reps K H' ds xs
  | [],xs,h=>h
  | d :: ds,xs,h=>by
    obtain ⟨y,ys,h1,h2,h3⟩:=h
    exact ⟨y,ys,h1,Rep.same e d y h2,Reps.same e ds ys h3⟩
end
theorem Reps.length {K:PySem.W.Frag} {H:Hp}:∀ {ds:List PyData} {xs:List V},Reps K H ds xs→ds.length = xs.length
  | [],xs,h=>by rw [show xs = [] from h]; rfl
  | d :: ds,xs,h=>by
    obtain ⟨y,ys,h1,_,h3⟩:=h
    rw [h1,List.length_cons,List.length_cons,Reps.length h3]
theorem Reps.get {K:PySem.W.Frag} {H:Hp}:∀ {ds:List PyData} {xs:List V} {i:Nat} {y:V},Reps K H ds xs→xs[i]? = some y→∃ d,ds[i]? = some d∧Rep K H d y
  | [],xs,i,y,h,e=>by rw [show xs = [] from h] at e; simp at e
  | d :: ds,xs,i,y,h,e=>by
    obtain ⟨z,zs,h1,h2,h3⟩:=h
    subst h1
    cases i with
    | zero =>
      have:z = y:=by simpa using e
      subst this
      exact ⟨d,rfl,h2⟩
    | succ i =>
      obtain ⟨d',e1,e2⟩:=Reps.get (i:=i) h3 (by simpa using e)
      exact ⟨d',by simpa using e1,e2⟩
theorem Reps.append {K:PySem.W.Frag} {H:Hp}:∀ {ds es:List PyData} {xs ys:List V},Reps K H ds xs→Reps K H es ys→Reps K H (ds ++ es) (xs ++ ys)
  | [],es,xs,ys,h,h'=>by rw [show xs = [] from h]; exact h'
  | d :: ds,es,xs,ys,h,h'=>by
    obtain ⟨z,zs,h1,h2,h3⟩:=h
    subst h1
    exact ⟨z,zs ++ ys,rfl,h2,Reps.append h3 h'⟩
theorem Reps.one {K:PySem.W.Frag} {H:Hp} {d:PyData} {v:V} (h:Rep K H d v):Reps K H [d] [v]:=⟨v,[],rfl,h,rfl⟩
theorem Reps.drop {K:PySem.W.Frag} {H:Hp}:∀ {ds:List PyData} {xs:List V} (k:Nat),Reps K H ds xs→Reps K H (ds.drop k) (xs.drop k)
  | [],xs,k,h=>by rw [show xs = [] from h]; simp [Reps]
  | d :: ds,xs,0,h=>h
  | d :: ds,xs,k + 1,h=>by
    obtain ⟨z,zs,h1,_,h3⟩:=h
    subst h1
    exact Reps.drop k h3
theorem Reps.take {K:PySem.W.Frag} {H:Hp}:∀ {ds:List PyData} {xs:List V} (k:Nat),Reps K H ds xs→Reps K H (ds.take k) (xs.take k)
  | [],xs,k,h=>by rw [show xs = [] from h]; simp [Reps]
  | d :: ds,xs,0,h=>by simp [Reps]
  | d :: ds,xs,k + 1,h=>by
    obtain ⟨z,zs,h1,h2,h3⟩:=h
    subst h1
    exact ⟨z,zs.take k,rfl,h2,Reps.take k h3⟩
theorem Reps.strs {K:PySem.W.Frag} {H:Hp}:∀ {ss:List Str} {xs:List V},Reps K H (ss.map PyData.str) xs↔xs = ss.map V.str
  | [],xs=>Iff.rfl
  | s :: ss,xs=>by
    constructor
    · rintro ⟨y,ys,h1,h2,h3⟩
      have h2':y = .str s:=h2
      rw [h1,h2',Reps.strs.mp h3]; rfl
    · intro e
      exact ⟨.str s,ss.map V.str,e,rfl,Reps.strs.mpr rfl⟩
section
variable {X:Cx} {pins:List (Addr × Obj)} {σ:St} {H:Hp} {s:Shared}
mutual
theorem Rep.reads (I:Inv X pins σ H s):∀ (d:PyData) (v:V) (u:Value),Rep X.K H d v→RelV v u→∃ as,Reads s.heap u d as
  | .none,v,u,h,r=>by
    have h':v = .non:=h
    subst h'
    cases r
    exact ⟨_,.none⟩
  | .bool b,v,u,h,r=>by
    have h':v = .bl b:=h
    subst h'
    cases r
    exact ⟨_,.bool b⟩
  | .int i,v,u,h,r=>by
    have h':v = .int i:=h
    subst h'
    obtain ⟨t,rfl⟩:=r
    exact ⟨_,.int i t⟩
  | .str x,v,u,h,r=>by
    have h':v = .str x:=h
    subst h'
    obtain ⟨t,rfl⟩:=r
    exact ⟨_,.str x t⟩
  | .list ds,v,u,h,r=>by
    obtain ⟨a,xs,h1,h2,h3⟩:=h
    subst h1
    cases r
    obtain ⟨its,rv,⟨o,n,e,hc,_,hd⟩,_⟩:=I.list h2
    obtain ⟨as,ra⟩:=Reps.reads I ds xs its h3 rv
    exact ⟨_,.list e hc hd (by simpa using ra)⟩
  | .tuple ds,v,u,h,r=>by
    obtain ⟨a,xs,h1,h2,h3⟩:=h
    subst h1
    cases r
    obtain ⟨its,rv,⟨o,e,hc,n,hd⟩,_⟩:=I.tuple h2
    obtain ⟨as,ra⟩:=Reps.reads I ds xs its h3 rv
    exact ⟨_,.tuple e hc hd (by simpa using ra)⟩
  | .dict _,v,u,h,r=>h.elim
theorem Reps.reads (I:Inv X pins σ H s):∀ (ds:List PyData) (xs:List V) (us:List Value),Reps X.K H ds xs→Vals xs us→∃ as,ReadsAll s.heap us ds as
  | [],xs,us,h,r=>by
    have h':xs = []:=h
    subst h'
    cases r
    exact ⟨_,.nil⟩
  | d :: ds,xs,us,h,r=>by
    obtain ⟨y,ys,h1,h2,h3⟩:=h
    subst h1
    cases r with
    | cons r1 r2 =>
      obtain ⟨as,ra⟩:=Rep.reads I d y _ h2 r1
      obtain ⟨bs,rb⟩:=Reps.reads I ds ys _ h3 r2
      exact ⟨_,.cons ra rb⟩
end
def rEqD (K:PySem.W.Frag) (neg:Bool):R2:=fun x y H Q=>∃ d e,Rep K H d x∧Rep K H e y∧SeqAt.shaped d = true∧SeqAt.shaped e = true∧Q (.bl (if neg = true then !PyData.eqv d e else PyData.eqv d e)) H
theorem op_eqD (hu:X.A.units + 64 < cLine):OpR X (compareOp .Eq) (rEqD X.K false):=by
  intro pins s σ H x y v u Q I rx ry h
  obtain ⟨d,e,h1,h2,h3,h4,q⟩:=h
  obtain ⟨as,ra⟩:=Rep.reads I d x v h1 rx
  obtain ⟨bs,rb⟩:=Rep.reads I e y u h2 ry
  exact eq_dataH ra rb h3 h4 hu ⟨.bl _,H,I,rfl,q⟩
theorem op_neD (hu:X.A.units + 64 < cLine):OpR X (compareOp .NotEq) (rEqD X.K true):=by
  intro pins s σ H x y v u Q I rx ry h
  obtain ⟨d,e,h1,h2,h3,h4,q⟩:=h
  obtain ⟨as,ra⟩:=Rep.reads I d x v h1 rx
  obtain ⟨bs,rb⟩:=Rep.reads I e y u h2 ry
  exact ne_dataH ra rb h3 h4 hu ⟨.bl _,H,I,rfl,q⟩
end
mutual
theorem eqv_refl:∀ d:PyData,d.canLay0 = true→PyData.eqv d d = true
  | .none,_=>rfl
  | .bool b,_=>by simp [PyData.eqv]
  | .int i,_=>by simp [PyData.eqv]
  | .str x,_=>by simp [PyData.eqv]
  | .list ds,h=>by
    have h':PyData.canLayAll0 ds = true:=by simpa [PyData.canLay0] using h
    simp only [PyData.eqv]; exact eqvAll_refl ds h'
  | .tuple ds,h=>by
    have h':PyData.canLayAll0 ds = true:=by simpa [PyData.canLay0] using h
    simp only [PyData.eqv]; exact eqvAll_refl ds h'
  | .dict _,h=>by simp [PyData.canLay0] at h
theorem eqvAll_refl:∀ ds:List PyData,PyData.canLayAll0 ds = true→PyData.eqvAll ds ds = true
  | [],_=>rfl
  | d :: ds,h=>by
    have h':d.canLay0 = true∧PyData.canLayAll0 ds = true:=by simpa [PyData.canLayAll0] using h
    simp only [PyData.eqvAll,eqv_refl d h'.1,eqvAll_refl ds h'.2,Bool.and_self]
end
end L2
end
section
open PySem PySem.W PyProof.Rows
namespace MyS
def ev {α:Type} (lt:Nat→Nat→Bool):KasT α→α
  | .ret a=>a
  | .ask i j k=>ev lt (k (lt i j))
theorem ev_bind {α β:Type} (lt:Nat→Nat→Bool) (f:α→KasT β):∀ t:KasT α,ev lt (t.bind f) = ev lt (f (ev lt t))
  | .ret _=>rfl
  | .ask i j k=>ev_bind lt f (k (lt i j))
def okT {α:Type} (lt:Nat→Nat→Bool) (N:Nat):KasT α→Prop
  | .ret _=>True
  | .ask i j k=>i < N∧j < N∧i≠j∧okT lt N (k (lt i j))
theorem okT_bind {α β:Type} {lt:Nat→Nat→Bool} {N:Nat} {f:α→KasT β}:∀ (t:KasT α),okT lt N t→okT lt N (f (ev lt t))→okT lt N (t.bind f)
  | .ret _,_,h=>h
  | .ask i j k,h,h'=>⟨h.1,h.2.1,h.2.2.1,okT_bind (k (lt i j)) h.2.2.2 h'⟩
structure TotalOn (lt:Nat→Nat→Bool) (n:Nat):Prop where
  irr:∀ i,i < n→lt i i = false
  tr:∀ i j k,i < n→j < n→k < n→lt i j = true→lt j k = true→lt i k = true
  tot:∀ i j,i < n→j < n→i≠j→lt i j = true∨lt j i = true
abbrev gg (p:Array Nat) (i:Nat):Nat:=p.getD i 0
def Pm (p:Array Nat) (n:Nat):Prop:=p.toList.Perm (List.range n)
theorem Pm.size {p:Array Nat} {n:Nat} (h:Pm p n):p.size = n:=by
  have:=List.Perm.length_eq h
  simpa using this
theorem gg_eq {p:Array Nat} {i:Nat} (h:i < p.size):gg p i = p[i]:=by simp [gg,Array.getD,h]
theorem Pm.lt {p:Array Nat} {n i:Nat} (h:Pm p n) (hi:i < n):gg p i < n:=by
  have hs:i < p.size:=by rw [h.size]; exact hi
  have hm:p[i]∈List.range n:=(List.Perm.mem_iff h).mp (by simp)
  rw [gg_eq hs]
  exact List.mem_range.mp hm
theorem Pm.ne {p:Array Nat} {n i j:Nat} (h:Pm p n) (hi:i < n) (hj:j < n) (hij:i≠j):gg p i≠gg p j:=by
  have hsi:i < p.size:=by rw [h.size]; exact hi
  have hsj:j < p.size:=by rw [h.size]; exact hj
  have nd:p.toList.Nodup:=(List.Perm.nodup_iff h).mpr List.nodup_range
  rw [gg_eq hsi,gg_eq hsj]
  intro e
  apply hij
  have e':p.toList[i]'(by simpa using hsi) = p.toList[j]'(by simpa using hsj):=by simpa using e
  exact (List.getElem_inj nd).mp e'
theorem Pm.perm {p q:Array Nat} {n:Nat} (h:Pm p n) (e:q.Perm p):Pm q n:=(Array.perm_iff_toList_perm.mp e).trans h
def Up (lt:Nat→Nat→Bool) (p:Array Nat) (k:Nat):Prop:=∀ i j,i < j→j < k→lt (gg p i) (gg p j) = true
def Dn (lt:Nat→Nat→Bool) (p:Array Nat) (k:Nat):Prop:=∀ i j,i < j→j < k→lt (gg p j) (gg p i) = true
section
variable {lt:Nat→Nat→Bool} {N:Nat} {p:Array Nat}
theorem TotalOn.flip (O:TotalOn lt N) {i j:Nat} (hi:i < N) (hj:j < N) (hne:i≠j) (h:lt i j = false):lt j i = true:=by
  rcases O.tot i j hi hj hne with h' | h'
  · rw [h] at h'; cases h'
  · exact h'
theorem Up.more (O:TotalOn lt N) (P:Pm p N) {n:Nat} (h1:1≤n) (hn:n < N) (u:Up lt p n) (h:lt (gg p (n - 1)) (gg p n) = true):Up lt p (n + 1):=by
  intro i j hij hj
  by_cases e:j = n
  · subst e
    by_cases e':i = j - 1
    · subst e'; exact h
    · exact O.tr _ _ _ (P.lt (by omega)) (P.lt (by omega)) (P.lt hn) (u i (j - 1) (by omega) (by omega)) h
  · exact u i j hij (by omega)
theorem Dn.more (O:TotalOn lt N) (P:Pm p N) {n:Nat} (h1:1≤n) (hn:n < N) (u:Dn lt p n) (h:lt (gg p n) (gg p (n - 1)) = true):Dn lt p (n + 1):=by
  intro i j hij hj
  by_cases e:j = n
  · subst e
    by_cases e':i = j - 1
    · subst e'; exact h
    · exact O.tr _ _ _ (P.lt hn) (P.lt (by omega)) (P.lt (by omega)) h (u i (j - 1) (by omega) (by omega))
  · exact u i j hij (by omega)
theorem up_one:Up lt p 1:=fun i j hij hj=>by omega
theorem asc_ok (O:TotalOn lt N) (P:Pm p N):∀ (f n:Nat),1≤n→n + f≤N→Up lt p n →
    n≤ev lt (kas_asc p f n)∧ev lt (kas_asc p f n)≤n + f∧Up lt p (ev lt (kas_asc p f n))∧(ev lt (kas_asc p f n) < n + f→lt (gg p (ev lt (kas_asc p f n))) (gg p (ev lt (kas_asc p f n) - 1)) = true)
  | 0,n,_,_,u=>⟨Nat.le_refl _,Nat.le_refl _,u,fun h=>absurd h (Nat.lt_irrefl _)⟩
  | f + 1,n,h1,hn,u=>by
    have e:ev lt (kas_asc p (f + 1) n) = ev lt (if lt (gg p n) (gg p (n - 1)) = true then KasT.ret n else kas_asc p f (n + 1)):=rfl
    rw [e]
    cases c:lt (gg p n) (gg p (n - 1)) with
    | true =>
      rw [if_pos rfl]
      exact ⟨Nat.le_refl _,Nat.le_add_right _ _,u,fun _=>c⟩
    | false =>
      rw [if_neg (by simp)]
      have c':=O.flip (P.lt (by omega)) (P.lt (by omega)) (P.ne (by omega) (by omega) (by omega)) c
      obtain ⟨a1,a2,a3,a4⟩:=asc_ok O P f (n + 1) (by omega) (by omega) (u.more O P h1 (by omega) c')
      exact ⟨by omega,by omega,a3,fun h=>a4 (by omega)⟩
theorem asc_t (P:Pm p N):∀ (f n:Nat),1≤n→n + f≤N→okT lt N (kas_asc p f n)
  | 0,n,_,_=>trivial
  | f + 1,n,h1,hn=>by
    refine ⟨P.lt (by omega),P.lt (by omega),P.ne (by omega) (by omega) (by omega),?_⟩
    show okT lt N (if lt (gg p n) (gg p (n - 1)) = true then KasT.ret n else kas_asc p f (n + 1))
    split
    · trivial
    · exact asc_t P f (n + 1) (by omega) (by omega)
theorem desc_t (O:TotalOn lt N) (P:Pm p N):∀ (f n:Nat),1≤n→n + f≤N→okT lt N (kas_desc f p n 0)
  | 0,n,_,_=>trivial
  | f + 1,n,h1,hn=>by
    refine ⟨P.lt (by omega),P.lt (by omega),P.ne (by omega) (by omega) (by omega),?_⟩
    show okT lt N (if lt (gg p n) (gg p (n - 1)) = true then (if 0 > 0 then kas_desc f (kas_rev p (n - (0 + 1)) n) (n + 1) 0 else kas_desc f p (n + 1) 0)
      else .ask (gg p (n - 1)) (gg p n) fun d=>if d = true then .ret (p,n,0) else kas_desc f p (n + 1) (0 + 1))
    cases c:lt (gg p n) (gg p (n - 1)) with
    | true =>
      rw [if_pos rfl,if_neg (by omega)]
      exact desc_t O P f (n + 1) (by omega) (by omega)
    | false =>
      rw [if_neg (by simp)]
      have c':=O.flip (P.lt (by omega)) (P.lt (by omega)) (P.ne (by omega) (by omega) (by omega)) c
      refine ⟨P.lt (by omega),P.lt (by omega),P.ne (by omega) (by omega) (by omega),?_⟩
      show okT lt N (if lt (gg p (n - 1)) (gg p n) = true then KasT.ret (p,n,0) else kas_desc f p (n + 1) (0 + 1))
      rw [c',if_pos rfl]
      trivial
theorem desc_ok (O:TotalOn lt N) (P:Pm p N):∀ (f n:Nat),1≤n→n + f≤N→Dn lt p n →
    ∃ m,ev lt (kas_desc f p n 0) = (p,m,0)∧n≤m∧m≤n + f∧Dn lt p m
  | 0,n,_,_,u=>⟨n,rfl,Nat.le_refl _,Nat.le_refl _,u⟩
  | f + 1,n,h1,hn,u=>by
    have e:ev lt (kas_desc (f + 1) p n 0) = ev lt (if lt (gg p n) (gg p (n - 1)) = true then (if 0 > 0 then kas_desc f (kas_rev p (n - (0 + 1)) n) (n + 1) 0 else kas_desc f p (n + 1) 0)
      else .ask (gg p (n - 1)) (gg p n) fun d=>if d = true then .ret (p,n,0) else kas_desc f p (n + 1) (0 + 1)):=rfl
    rw [e]
    cases c:lt (gg p n) (gg p (n - 1)) with
    | true =>
      rw [if_pos rfl,if_neg (by omega)]
      obtain ⟨m,a1,a2,a3,a4⟩:=desc_ok O P f (n + 1) (by omega) (by omega) (u.more O P h1 (by omega) c)
      exact ⟨m,a1,by omega,by omega,a4⟩
    | false =>
      rw [if_neg (by simp)]
      have c':=O.flip (P.lt (by omega)) (P.lt (by omega)) (P.ne (by omega) (by omega) (by omega)) c
      have e2:ev lt (.ask (gg p (n - 1)) (gg p n) fun d=>if d = true then KasT.ret (p,n,0) else kas_desc f p (n + 1) (0 + 1)) = ev lt (if lt (gg p (n - 1)) (gg p n) = true then KasT.ret (p,n,0) else kas_desc f p (n + 1) (0 + 1)):=rfl
      rw [e2,c',if_pos rfl]
      exact ⟨n,rfl,Nat.le_refl _,by omega,u⟩
theorem gg_rev {m k:Nat} (hm:m≤p.size):gg (kas_rev p 0 m) k = if k < m then gg p (m - 1 - k) else gg p k:=by
  have e:=getElem?_mirror_all (i:=0) hm k
  have e0:∀ (q:Array Nat) (x:Nat),gg q x = (q[x]?).getD 0:=fun q x=>by simp [gg]
  rw [e0,e0,e0]
  show ((mirror p 0 m ((m - 0) / 2))[k]?).getD 0 = _
  rw [e]
  by_cases h:k < m
  · rw [if_pos ⟨Nat.zero_le _,h⟩,if_pos h]
    simp
  · rw [if_neg (fun z=>h z.2),if_neg h]
theorem rev_up (P:Pm p N) {m:Nat} (hm:m≤N) (d:Dn lt p m):Up lt (kas_rev p 0 m) m:=by
  intro i j hij hj
  have hs:m≤p.size:=by rw [P.size]; exact hm
  rw [gg_rev hs,gg_rev hs,if_pos (by omega),if_pos hj]
  exact d _ _ (by omega) (by omega)
theorem rev_pm (P:Pm p N) (i j:Nat):Pm (kas_rev p i j) N:=P.perm (mirror_perm p i j _)
theorem count_ok (O:TotalOn lt N) (P:Pm p N) (h2:2≤N):∃ m q,ev lt (kas_count N p) = (m,q)∧1≤m∧m≤N∧Pm q N∧Up lt q m:=by
  obtain ⟨a1,a2,a3,a4⟩:=asc_ok O P (N - 1) 1 (Nat.le_refl _) (by omega) up_one
  unfold kas_count
  rw [ev_bind]
  generalize hn:ev lt (kas_asc p (N - 1) 1) = n at a1 a2 a3 a4
  by_cases e1:(n == N) = true
  · rw [if_pos e1]
    exact ⟨n,p,rfl,a1,by omega,P,a3⟩
  · rw [if_neg e1]
    have hne:n≠N:=by simpa using e1
    by_cases e2:n > 1
    · rw [if_pos e2]
      have c:lt (gg p 0) (gg p (n - 1)) = true:=a3 0 (n - 1) (by omega) (by omega)
      have e3:ev lt (KasT.ask (p.getD 0 0) (p.getD (n - 1) 0) fun c=>if c = true then KasT.ret (n,p) else kas_descPart n N (kas_rev p 0 n)) = ev lt (if lt (gg p 0) (gg p (n - 1)) = true then KasT.ret (n,p) else kas_descPart n N (kas_rev p 0 n)):=rfl
      rw [e3,c,if_pos rfl]
      exact ⟨n,p,rfl,a1,by omega,P,a3⟩
    · rw [if_neg e2]
      have e:n = 1:=by omega
      subst e
      have c:=a4 (by omega)
      have d2:Dn lt p 2:=fun i j hij hj=>by
        have:i = 0:=by omega
        have:j = 1:=by omega
        subst i; subst j; exact c
      obtain ⟨m,b1,b2,b3,b4⟩:=desc_ok O P (N - 2) 2 (by omega) (by omega) d2
      unfold kas_descPart
      rw [ev_bind]
      have b1':ev lt (kas_desc (N - (1 + 1)) p (1 + 1) 0) = (p,m,0):=b1
      rw [b1']
      dsimp only
      rw [if_neg (by omega)]
      unfold kas_tail3
      rw [ev_bind]
      obtain ⟨c1,c2,c3,_⟩:=asc_ok O (rev_pm P 0 m) (N - m) m (by omega) (by omega) (rev_up P (by omega) b4)
      exact ⟨_,_,rfl,by omega,by omega,rev_pm P 0 m,c3⟩
theorem count_t (O:TotalOn lt N) (P:Pm p N) (h2:2≤N):okT lt N (kas_count N p):=by
  obtain ⟨a1,a2,a3,a4⟩:=asc_ok O P (N - 1) 1 (Nat.le_refl _) (by omega) up_one
  unfold kas_count
  refine okT_bind _ (asc_t P _ _ (Nat.le_refl _) (by omega)) ?_
  generalize hn:ev lt (kas_asc p (N - 1) 1) = n at a1 a2 a3 a4
  by_cases e1:(n == N) = true
  · rw [if_pos e1]; trivial
  · rw [if_neg e1]
    have hne:n≠N:=by simpa using e1
    by_cases e2:n > 1
    · rw [if_pos e2]
      have c:lt (gg p 0) (gg p (n - 1)) = true:=a3 0 (n - 1) (by omega) (by omega)
      refine ⟨P.lt (by omega),P.lt (by omega),P.ne (by omega) (by omega) (by omega),?_⟩
      show okT lt N (if lt (gg p 0) (gg p (n - 1)) = true then KasT.ret (n,p) else kas_descPart n N (kas_rev p 0 n))
      rw [c,if_pos rfl]
      trivial
    · rw [if_neg e2]
      have e:n = 1:=by omega
      subst e
      have c:=a4 (by omega)
      have d2:Dn lt p 2:=fun i j hij hj=>by
        have:i = 0:=by omega
        have:j = 1:=by omega
        subst i; subst j; exact c
      obtain ⟨m,b1,b2,b3,b4⟩:=desc_ok O P (N - 2) 2 (by omega) (by omega) d2
      unfold kas_descPart
      refine okT_bind _ (desc_t O P _ _ (by omega) (by omega)) ?_
      have b1':ev lt (kas_desc (N - (1 + 1)) p (1 + 1) 0) = (p,m,0):=b1
      rw [b1']
      dsimp only
      rw [if_neg (by omega)]
      unfold kas_tail3
      exact okT_bind _ (asc_t (rev_pm P 0 m) _ _ (by omega) (by omega)) trivial
theorem place_t (P:Pm p N) {k:Nat} (hk:k < N):∀ (f l r:Nat),r≤k→okT lt N (kas_place p k f l r)
  | 0,l,r,_=>trivial
  | f + 1,l,r,h=>by
    show okT lt N (if l ≥ r then KasT.ret l else .ask (p.getD k 0) (p.getD ((l + r) / 2) 0) fun c=>if c = true then kas_place p k f l ((l + r) / 2) else kas_place p k f ((l + r) / 2 + 1) r)
    by_cases hlr:l ≥ r
    · rw [if_pos hlr]; trivial
    · rw [if_neg hlr]
      refine ⟨P.lt hk,P.lt (by omega),P.ne hk (by omega) (by omega),?_⟩
      show okT lt N (if lt (gg p k) (gg p ((l + r) / 2)) = true then kas_place p k f l ((l + r) / 2) else kas_place p k f ((l + r) / 2 + 1) r)
      split
      · exact place_t P hk f l _ (by omega)
      · exact place_t P hk f _ r h
theorem place_ok (O:TotalOn lt N) (P:Pm p N) {k:Nat} (hk:k < N) (u:Up lt p k):∀ (f l r:Nat),l≤r→r≤k→r - l≤f→(∀ i,i < l→lt (gg p i) (gg p k) = true)→(∀ i,r≤i→i < k→lt (gg p k) (gg p i) = true) →
    ev lt (kas_place p k f l r)≤k∧(∀ i,i < ev lt (kas_place p k f l r)→lt (gg p i) (gg p k) = true)∧∀ i,ev lt (kas_place p k f l r)≤i→i < k→lt (gg p k) (gg p i) = true
  | 0,l,r,h1,h2,h3,a,b=>by
    have:l = r:=by omega
    subst this
    exact ⟨h2,a,b⟩
  | f + 1,l,r,h1,h2,h3,a,b=>by
    have e:ev lt (kas_place p k (f + 1) l r) = ev lt (if l ≥ r then KasT.ret l else .ask (p.getD k 0) (p.getD ((l + r) / 2) 0) fun c=>if c = true then kas_place p k f l ((l + r) / 2) else kas_place p k f ((l + r) / 2 + 1) r):=rfl
    rw [e]
    by_cases hlr:l ≥ r
    · rw [if_pos hlr]
      have:l = r:=by omega
      subst this
      exact ⟨h2,a,b⟩
    · rw [if_neg hlr]
      have e2:ev lt (KasT.ask (p.getD k 0) (p.getD ((l + r) / 2) 0) fun c=>if c = true then kas_place p k f l ((l + r) / 2) else kas_place p k f ((l + r) / 2 + 1) r) = ev lt (if lt (gg p k) (gg p ((l + r) / 2)) = true then kas_place p k f l ((l + r) / 2) else kas_place p k f ((l + r) / 2 + 1) r):=rfl
      rw [e2]
      generalize hm:(l + r) / 2 = m
      have m1:l≤m:=by omega
      have m2:m < r:=by omega
      cases c:lt (gg p k) (gg p m) with
      | true =>
        rw [if_pos rfl]
        refine place_ok O P hk u f l m m1 (by omega) (by omega) a fun i hi hik=>?_
        by_cases e3:i = m
        · subst e3; exact c
        · exact O.tr _ _ _ (P.lt hk) (P.lt (by omega)) (P.lt (by omega)) c (u m i (by omega) hik)
      | false =>
        rw [if_neg (by simp)]
        have c':=O.flip (P.lt hk) (P.lt (by omega)) (P.ne hk (by omega) (by omega)) c
        refine place_ok O P hk u f (m + 1) r (by omega) h2 (by omega) (fun i hi=>?_) b
        by_cases e3:i = m
        · subst e3; exact c'
        · exact O.tr _ _ _ (P.lt (by omega)) (P.lt (by omega)) (P.lt hk) (u i m (by omega) (by omega)) c'
theorem gg_bubble {k d x:Nat} (hk:k < p.size) (hd:d≤k):gg (bubble p k d) x = if x = k - d then gg p k else if k - d < x∧x≤k then gg p (x - 1) else gg p x:=by
  have e:=getElem?_bubble hk d hd x
  have e0:∀ (q:Array Nat) (x:Nat),gg q x = (q[x]?).getD 0:=fun q x=>by simp [gg]
  rw [e0,e0,e0,e0,e]
  split
  · rfl
  · split <;> rfl
theorem bin_ok (O:TotalOn lt N):∀ (f:Nat) (p:Array Nat) (k:Nat),Pm p N→k + f = N→Up lt p k→Pm (ev lt (kas_bin f p k)) N∧Up lt (ev lt (kas_bin f p k)) N
  | 0,p,k,P,e,u=>by
    have:k = N:=by omega
    subst this
    exact ⟨P,u⟩
  | f + 1,p,k,P,e,u=>by
    have e1:kas_bin (f + 1) p k = (kas_place p k k 0 k).bind fun l=>kas_bin f (bubble p k (k - l)) (k + 1):=rfl
    rw [e1,ev_bind]
    have hk:k < N:=by omega
    obtain ⟨a1,a2,a3⟩:=place_ok O P hk u k 0 k (Nat.zero_le _) (Nat.le_refl _) (by omega) (fun i hi=>by omega) (fun i h1 h2=>by omega)
    generalize ev lt (kas_place p k k 0 k) = l at a1 a2 a3
    have hs:k < p.size:=by rw [P.size]; exact hk
    refine bin_ok O f _ (k + 1) (P.perm (bubble_perm p k _)) (by omega) fun i j hij hj=>?_
    rw [gg_bubble hs (by omega),gg_bubble hs (by omega)]
    have ekl:k - (k - l) = l:=by omega
    rw [ekl]
    by_cases h1:i = l
    · rw [if_pos h1,if_neg (by omega),if_pos (by omega)]
      exact a3 _ (by omega) (by omega)
    · rw [if_neg h1]
      by_cases h2:l < i∧i≤k
      · rw [if_pos h2,if_neg (by omega),if_pos (by omega)]
        exact u _ _ (by omega) (by omega)
      · rw [if_neg h2]
        by_cases h3:j = l
        · rw [if_pos h3]
          exact a2 i (by omega)
        · rw [if_neg h3]
          by_cases h4:l < j∧j≤k
          · rw [if_pos h4]
            by_cases h5:i = j - 1
            · omega
            · exact u _ _ (by omega) (by omega)
          · rw [if_neg h4]
            exact u _ _ hij (by omega)
theorem bin_t (O:TotalOn lt N):∀ (f:Nat) (p:Array Nat) (k:Nat),Pm p N→k + f = N→okT lt N (kas_bin f p k)
  | 0,p,k,P,e=>trivial
  | f + 1,p,k,P,e=>by
    show okT lt N ((kas_place p k k 0 k).bind fun l=>kas_bin f (bubble p k (k - l)) (k + 1))
    exact okT_bind _ (place_t P (by omega) _ _ _ (Nat.le_refl _)) (bin_t O f _ (k + 1) (P.perm (bubble_perm p k _)) (by omega))
theorem sort_t (O:TotalOn lt N) (h2:2≤N):okT lt N (kas_sort N):=by
  have P0:Pm (List.toArray (List.range N)) N:=List.Perm.refl _
  obtain ⟨m,q,e,m1,m2,Pq,uq⟩:=count_ok O P0 h2
  unfold kas_sort
  refine okT_bind _ (count_t O P0 h2) ?_
  rw [e]
  dsimp only
  by_cases hm:m < N
  · rw [if_pos hm]
    have em:max m 1 = m:=by omega
    rw [em]
    exact bin_t O (N - m) q m Pq (by omega)
  · rw [if_neg hm]; trivial
theorem sort_ok (O:TotalOn lt N) (h2:2≤N):Pm (ev lt (kas_sort N)) N∧Up lt (ev lt (kas_sort N)) N:=by
  have P0:Pm (List.toArray (List.range N)) N:=List.Perm.refl _
  obtain ⟨m,q,e,m1,m2,Pq,uq⟩:=count_ok O P0 h2
  unfold kas_sort
  rw [ev_bind,e]
  dsimp only
  by_cases hm:m < N
  · rw [if_pos hm]
    have em:max m 1 = m:=by omega
    rw [em]
    exact bin_ok O (N - m) q m Pq (by omega) uq
  · rw [if_neg hm]
    have:m = N:=by omega
    subst this
    exact ⟨Pq,uq⟩
end
end MyS
end
section
set_option Elab.async false
set_option linter.all false
set_option maxRecDepth 100000
set_option maxHeartbeats 1000000
namespace MyS
open PySem PySem.W PyProof.Rows PySem.Spec
theorem kas_of {α:Type} {N:Nat} {cmp:Nat→Nat→(Bool→Shared→Prop)→Shared→Prop} {lt:Nat→Nat→Bool} {s:Shared} (hc:∀ i j,i < N→j < N→i≠j→∀ C,C (lt i j) s→cmp i j C s) :
    ∀ (t:KasT α) (Q:α→Shared→Prop),okT lt N t→Q (ev lt t) s→t.kasWp cmp Q s
  | .ret a,Q,_,h=>h
  | .ask i j k,Q,o,h=>hc i j o.1 o.2.1 o.2.2.1 _ (kas_of hc (k (lt i j)) Q o.2.2.2 h)
def keyAt (ks:List Str) (i:Nat):List Nat:=(ks.getD i ⟨#[]⟩).cps.toList
def ltAt (ks:List Str) (i j:Nat):Bool:=decide (keyAt ks i < keyAt ks j)
theorem Str_ext {a b:Str} (h:a.cps.toList = b.cps.toList):a = b:=by
  cases a; cases b
  congr 1
  exact Array.toList_inj.mp h
theorem lt_tri (a b:List Nat) (h1:¬ a < b) (h2:¬ b < a):a = b:=by
  have h1':b≤a:=List.not_lt.mp h1
  have h2':a≤b:=List.not_lt.mp h2
  exact List.le_antisymm h2' h1'
theorem ltAt_total {ks:List Str} (nd:ks.Nodup):TotalOn (ltAt ks) ks.length where
  irr:=fun i _=>by simp [ltAt,List.lt_irrefl]
  tr:=fun i j k _ _ _ h1 h2=>by
    simp only [ltAt,decide_eq_true_eq] at *
    exact List.lt_trans h1 h2
  tot:=fun i j hi hj hne=>by
    simp only [ltAt,decide_eq_true_eq]
    by_cases h1:keyAt ks i < keyAt ks j
    · exact .inl h1
    · by_cases h2:keyAt ks j < keyAt ks i
      · exact .inr h2
      · exfalso
        have e:=lt_tri _ _ h1 h2
        unfold keyAt at e
        have e':=Str_ext e
        have e1:ks.getD i ⟨#[]⟩ = ks[i]:=by simp [hi]
        have e2:ks.getD j ⟨#[]⟩ = ks[j]:=by simp [hj]
        rw [e1,e2] at e'
        exact hne ((List.getElem_inj nd).mp e')
def PairAt (h:Heap) (a:Addr) (v:Value) (k:Str):Prop:=∃ b o t x n,v = Value.ref b∧b≠a∧h.get? b = some o∧o.cls = .type "tuple" ∧ o.data = .seq #[.str k t,x] n
theorem PairAt.keep {h h':Heap} {a:Addr} {v:Value} {k:Str} (p:PairAt h a v k) (e:∀ b o,b≠a→h.get? b = some o→h'.get? b = some o):PairAt h' a v k:=by
  obtain ⟨b,o,t,x,n,h1,h2,h3,h4⟩:=p
  exact ⟨b,o,t,x,n,h1,h2,e b o h2 h3,h4⟩
section
variable {prog:Program} {w:World} {A:Around} {E:Value→Shared→Prop} {s:Shared}
theorem lt_pair {v u:Value} {k l:Str} {a:Addr} {C:Bool→Shared→Prop} (hv:PairAt s.heap a v k) (hu:PairAt s.heap a u l) (e:k≠l) (h:C (decide (k.cps.toList < l.cps.toList)) s) :
    wpAny (model prog w) A (keyLt' (tuples' true) v u) C E s:=by
  obtain ⟨b,o,t,x,n,h1,h2,h3,h4,h5⟩:=hv
  obtain ⟨b',o',t',x',n',h1',h2',h3',h4',h5'⟩:=hu
  subst h1; subst h1'
  refine kat_lt h3 h5 h3' h5' ?_
  have eb:(k == l) = false:=by simpa using e
  have q:=SeqAt.EqAt.str_str (A:=A) (s:=s) k t l t'
  rw [eb] at q
  refine kat_cons (q prog w _ _ (kat_no ?_))
  exact strKind_oneLt prog w A _ s (.str k t) (.str l t') k.cps.toList l.cps.toList rfl rfl h
end
section
variable {prog:Program} {w:World} {A:Around} {E:Value→Shared→Prop} {s:Shared}
theorem sort_gen {κ:SortKind} {a:Addr} {vs:List Value} {ks:List Str} {n:Nat} {P:PySem.Fin→Shared→Prop} (ho:s.heap.get? a = some (seqObj "list" vs.toArray n)) (hl:ks.length = vs.length) (nd:ks.Nodup) (h64:vs.length < 64)
    (hK:∀ G,(∀ b o,b≠a→s.heap.get? b = some o→G.get? b = some o)→2≤vs.length→∀ (Q:SortKind→Shared→Prop) (E':Value→Shared→Prop),Q κ { s with heap:=G }→wpAny (model prog w) A (keyKind' vs.toArray) Q E' { s with heap:=G })
    (hC:∀ G,(∀ b o,b≠a→s.heap.get? b = some o→G.get? b = some o)→∀ i j,i < vs.length→j < vs.length→i≠j→∀ C,C (ltAt ks i j) { s with heap:=G }→kas_ask prog w A κ vs i j C { s with heap:=G })
    (h:∀ (p:List Nat) (h':Heap) (e:Nat),p.Perm (List.range vs.length)→(p.map (keyAt ks)).Pairwise (· < ·)→(∀ b o,b≠a→s.heap.get? b = some o→h'.get? b = some o) →
      h'.get? a = some (seqObj "list" (p.map fun i=>vs.getD i Value.none).toArray e)→P (.done (.ret .none)) { s with heap:=h' }) :
    wpAny (model prog w) A (Builtin.«list.sort» ⟨[.ref a],[]⟩) P E s:=by
  have ha:a < s.heap.objs.size:=Heap.lt_size ho
  rw [list_sort_plain]
  refine wpAny_bind (listItems_at ho rfl ?_)
  refine wpAny_bind (listUpdate_at ho rfl ?_ (by rw [List.size_toArray,sizeLine_eq]; omega) (Nat.zero_le _))
  obtain ⟨e1,ho1⟩:∃ e1,(s.heap.update a (Obj.mapSeq fun _=>(#[]:Array Value))).get? a = some (seqObj "list" #[] e1):=⟨_,get?_update_seq ho fun _=>#[]⟩
  refine wpAny_bind (seqEpoch_at ho1 rfl ?_)
  refine wpAny_bind (wpAny_newTuple ?_ (by rw [sizeLine_eq]; simp; omega))
  refine wpAny_bind (wpAny_newList ?_ (by simp))
  refine wpAny_holding ?_
  show wpAny (model prog w) A _ P E { s with heap:=((s.heap.update a (Obj.mapSeq fun _=>#[])).push (seqObj "tuple" vs.toArray 0)).push (seqObj "list" #[] 0) }
  generalize hG:((s.heap.update a (Obj.mapSeq fun _=>(#[]:Array Value))).push (seqObj "tuple" vs.toArray 0)).push (seqObj "list" #[] 0) = G
  have hG1:G.get? a = some (seqObj "list" #[] e1):=by
    rw [← hG]
    exact Heap.get?_push_of_some _ (Heap.get?_push_of_some _ ho1)
  have hG2:∀ b o,b≠a→s.heap.get? b = some o→G.get? b = some o:=fun b o hb e=>by
    rw [← hG]
    exact Heap.get?_push_of_some _ (Heap.get?_push_of_some _ ((Heap.get?_update_other _ _ (Ne.symm hb)).trans e))
  have hsz:vs.toArray.size = vs.length:=by simp
  have fin:∀ (p:List Nat) (out:Array Value) (hout:out = (p.map fun i=>vs.getD i Value.none).toArray),p.Perm (List.range vs.length)→(p.map (keyAt ks)).Pairwise (· < ·) →
      P (.done (.ret .none)) { s with heap:=G.update a (Obj.mapSeq fun _=>out) }:=fun p out hout h1 h2=>by
    subst hout
    have e3:=get?_update_seq hG1 fun _=>(p.map fun i=>vs.getD i Value.none).toArray
    exact h p _ _ h1 h2 (fun b o hb e=>(Heap.get?_update_other _ _ (Ne.symm hb)).trans (hG2 b o hb e)) e3
  dsimp only
  by_cases h2:vs.toArray.size < 2
  · rw [if_pos h2,if_pos h2]
    refine wpAny_bind (wpAny_pure ?_)
    rw [StateT.run_pure]
    refine wpAny_bind (wpAny_pure ?_)
    dsimp only
    refine wpAny_bind (seqEpoch_at hG1 rfl ?_)
    refine wpAny_bind (listUpdate_at hG1 rfl ?_ (by simp) (by
      show ((vs.toArray.zip vs.toArray).map (·.2)).size≤sizeLine + 1
      rw [sizeLine_eq]; simp; omega))
    simp only [bne_self_eq_false,Bool.false_eq_true,if_false]
    refine wpAny_pure (fin (List.range vs.length) _ ?_ (List.Perm.refl _) ?_)
    · show (vs.toArray.zip vs.toArray).map (·.2) = _
      match vs,h2 with
      | [],_=>simp
      | [v],_=>simp [List.range_succ]
      | _ :: _ :: _,h2=>simp at h2; omega
    · have:vs.length < 2:=by simpa using h2
      match hv:vs.length,this with
      | 0,_=>simp
      | 1,_=>simp [List.range_succ]
  · rw [if_neg h2,if_neg h2]
    have h2':2≤vs.length:=by simpa using h2
    refine wpAny_bind (hK G hG2 h2' _ _ ?_)
    show wpAny _ _ (StateT.run sortRuns' (SortSt.mk' κ (vs.toArray.zip vs.toArray) #[] 7 none) >>= _) _ _ _
    have O:=ltAt_total nd
    rw [hl] at O
    obtain ⟨so1,so2⟩:=sort_ok O h2'
    refine wpAny_bind (wpAny_mono (kat_run (ks:=vs) (vs:=vs) (Q:=fun st' s'=>s' = { s with heap:=G }∧failedOf st' = none∧∃ p:Array Nat,Pm p vs.length∧Up (ltAt ks) p vs.length∧arrOf st' = p.map (kas_item (vs.toArray.zip vs.toArray)))
      (G:=fun p s'=>s' = { s with heap:=G }∧Pm p vs.length∧Up (ltAt ks) p vs.length) rfl h2' h64 (fun p st' s' _ q1 q2 q3=>⟨q3.1,q2,p,q3.2.1,q3.2.2,q1⟩) ?_) ?_ fun _ _ e=>e)
    · refine kas_of (N:=vs.length) (lt:=ltAt ks) (fun i j hi hj hij C hC'=>?_) _ _ (sort_t O h2') ⟨rfl,so1,so2⟩
      exact hC G hG2 i j hi hj hij C hC'
    · rintro ⟨⟨⟩,st'⟩ s' ⟨rfl,hf,p,q1,q2,q3⟩
      dsimp only
      have hout:=kat_snds (ks:=vs) (vs:=vs) rfl q3
      refine wpAny_bind (seqEpoch_at hG1 rfl ?_)
      refine wpAny_bind (listUpdate_at hG1 rfl ?_ (by simp) (by
        rw [hout,List.size_toArray,List.length_map,sizeLine_eq]
        have:=q1.size
        simp
        omega))
      rw [hf]
      simp only [bne_self_eq_false,Bool.false_eq_true,if_false]
      refine wpAny_pure (fin p.toList _ hout q1 ?_)
      rw [List.pairwise_map,List.pairwise_iff_getElem]
      intro i j hi hj hij
      have hi':i < p.size:=by simpa using hi
      have hj':j < p.size:=by simpa using hj
      have:=q2 i j hij (by rw [← q1.size]; exact hj')
      rw [gg_eq hi',gg_eq hj'] at this
      simpa [ltAt] using this
end
section
variable {prog:Program} {w:World} {A:Around} {E:Value→Shared→Prop} {s:Shared}
theorem getD_ne {ks:List Str} (nd:ks.Nodup) {i j:Nat} (hi:i < ks.length) (hj:j < ks.length) (hij:i≠j):ks.getD i ⟨#[]⟩≠ks.getD j ⟨#[]⟩:=fun e=>by
  have e1:ks.getD i ⟨#[]⟩ = ks[i]:=by simp [hi]
  have e2:ks.getD j ⟨#[]⟩ = ks[j]:=by simp [hj]
  rw [e1,e2] at e
  exact hij ((List.getElem_inj nd).mp e)
theorem sort_pairs {a:Addr} {vs:List Value} {ks:List Str} {n:Nat} {P:PySem.Fin→Shared→Prop} (ho:s.heap.get? a = some (seqObj "list" vs.toArray n)) (hl:ks.length = vs.length)
    (hp:∀ (i:Nat) (v:Value),vs[i]? = some v→∃ k,ks[i]? = some k∧PairAt s.heap a v k) (nd:ks.Nodup) (h64:vs.length < 64)
    (h:∀ (p:List Nat) (h':Heap) (e:Nat),p.Perm (List.range vs.length)→(p.map (keyAt ks)).Pairwise (· < ·)→(∀ b o,b≠a→s.heap.get? b = some o→h'.get? b = some o) →
      h'.get? a = some (seqObj "list" (p.map fun i=>vs.getD i Value.none).toArray e)→P (.done (.ret .none)) { s with heap:=h' }) :
    wpAny (model prog w) A (Builtin.«list.sort» ⟨[.ref a],[]⟩) P E s:=by
  have hpG:∀ G,(∀ b o,b≠a→s.heap.get? b = some o→G.get? b = some o)→∀ i,i < vs.length→PairAt G a (vs.getD i Value.none) (ks.getD i ⟨#[]⟩):=fun G hG i hi=>by
    obtain ⟨k,e,q⟩:=hp i vs[i] (List.getElem?_eq_getElem hi)
    have e1:vs.getD i Value.none = vs[i]:=by simp [hi]
    have e2:ks.getD i ⟨#[]⟩ = k:=by rw [List.getD_eq_getElem?_getD,e]; rfl
    rw [e1,e2]
    exact q.keep hG
  refine sort_gen (κ:=tuples' true) ho hl nd h64 (fun G hG h2 Q E' hQ=>?_) (fun G hG i j hi hj hij C hC=>lt_pair (s:={ s with heap:=G }) (hpG G hG i hi) (hpG G hG j hj) (getD_ne nd (by omega) (by omega) hij) hC) h
  have go:∀ l:List Value,(∀ v∈l,∃ k,PairAt G a v k)→∃ fs,KatTups G l fs∧(∀ v∈fs,∃ k t,v = Value.str k t)∧fs.length = l.length:=by
    intro l
    induction l with
    | nil=>intro _; exact ⟨[],.nil,by simp,rfl⟩
    | cons v l ih =>
      intro hl
      obtain ⟨k,b,o,t,x,n,q1,q2,q3,q4,q5⟩:=hl v (List.mem_cons_self ..)
      obtain ⟨fs,f1,f2,f3⟩:=ih fun u hu=>hl u (List.mem_cons_of_mem _ hu)
      subst q1
      refine ⟨.str k t :: fs,.cons q3 q4 q5 rfl f1,fun u hu=>?_,by simp [f3]⟩
      rcases List.mem_cons.mp hu with rfl | hu
      · exact ⟨k,t,rfl⟩
      · exact f2 u hu
  obtain ⟨fs,f1,f2,f3⟩:=go vs fun v hv=>by
    obtain ⟨i,hi,e⟩:=List.getElem_of_mem hv
    have:=hpG G hG i hi
    have e1:vs.getD i Value.none = v:=by simp [hi,e]
    rw [e1] at this
    exact ⟨_,this⟩
  refine kat_kind (s:={ s with heap:=G }) (T:=.type "str") f1 (by omega) (fun v hv=>?_) rfl hQ
  obtain ⟨k,t,rfl⟩:=f2 v hv
  exact .now
theorem sort_strs {a:Addr} {vs:List Value} {ks:List Str} {n:Nat} {P:PySem.Fin→Shared→Prop} (ho:s.heap.get? a = some (seqObj "list" vs.toArray n)) (hS:StrsAre vs ks) (nd:ks.Nodup) (h64:vs.length < 64)
    (h:∀ (p:List Nat) (h':Heap) (e:Nat),p.Perm (List.range vs.length)→(p.map (keyAt ks)).Pairwise (· < ·)→(∀ b o,b≠a→s.heap.get? b = some o→h'.get? b = some o) →
      h'.get? a = some (seqObj "list" (p.map fun i=>vs.getD i Value.none).toArray e)→P (.done (.ret .none)) { s with heap:=h' }) :
    wpAny (model prog w) A (Builtin.«list.sort» ⟨[.ref a],[]⟩) P E s:=by
  have hlen:ks.length = vs.length:=by rw [← hS.strs]; simp
  have hget:∀ i,i < vs.length→∃ t,vs.getD i Value.none = .str (ks.getD i ⟨#[]⟩) t:=fun i hi=>by
    obtain ⟨x,t,e⟩:=hS.all vs[i] (List.getElem_mem hi)
    refine ⟨t,?_⟩
    have e1:vs.getD i Value.none = vs[i]:=by simp [hi]
    have e2:ks.getD i ⟨#[]⟩ = x:=by
      rw [← hS.strs,List.getD_eq_getElem?_getD,List.getElem?_map,List.getElem?_eq_getElem hi,e]; rfl
    rw [e1,e2,e]
  refine sort_gen (κ:=oneType') ho hlen nd h64 (fun G hG h2 Q E' hQ=>?_) (fun G hG i j hi hj hij C hC=>?_) h
  · obtain ⟨v₁,v₂,rest,rfl⟩:∃ v₁ v₂ rest,vs = v₁ :: v₂ :: rest:=by
      match vs,h2 with
      | v₁ :: v₂ :: rest,_=>exact ⟨v₁,v₂,rest,rfl⟩
    rw [keyKind_strs hS]
    exact wpAny_pure hQ
  · obtain ⟨t,e⟩:=hget i hi
    obtain ⟨t',e'⟩:=hget j hj
    unfold kas_ask
    rw [e,e',keyLt'_oneType]
    exact strKind_oneLt prog w A _ _ _ _ _ _ rfl rfl hC
end
end MyS
end
section
set_option Elab.async false
set_option linter.all false
set_option maxRecDepth 100000
set_option maxHeartbeats 1000000
namespace L2
open PySem PySem.Spec PyProof.Rows
def updL (H:Hp) (news:List (Addr × HO)):Hp:=fun b=>match news.lookup b with
  | some o=>some o
  | none=>H b
theorem updL_old {H:Hp} {news:List (Addr × HO)} {b:Addr} (h:b ∉ news.map (·.1)):updL H news b = H b:=by
  unfold updL
  have:news.lookup b = none:=by
    induction news with
    | nil=>rfl
    | cons p r ih =>
      rw [List.map_cons,List.mem_cons,not_or] at h
      have hb:(b == p.1) = false:=by simpa using h.1
      obtain ⟨x,y⟩:=p
      rw [List.lookup_cons,hb]
      exact ih h.2
  rw [this]
theorem updL_new {H:Hp}:∀ {news:List (Addr × HO)} {b:Addr} {o:HO},(news.map (·.1)).Nodup→(b,o)∈news→updL H news b = some o:=by
  intro news b o nd hm
  unfold updL
  have:news.lookup b = some o:=by
    induction news with
    | nil=>cases hm
    | cons p r ih =>
      obtain ⟨x,y⟩:=p
      rw [List.map_cons] at nd
      have nd':=List.nodup_cons.mp nd
      rcases List.mem_cons.mp hm with e | e
      · have e1:b = x:=(Prod.mk.inj e).1
        have e2:o = y:=(Prod.mk.inj e).2
        subst e1; subst e2
        rw [List.lookup_cons_self]
      · have hb:(b == x) = false:=by
          have:b≠x:=fun z=>nd'.1 (by rw [← z]; exact List.mem_map_of_mem (f:=(·.1)) e)
          simpa using this
        rw [List.lookup_cons,hb]
        exact ih nd'.2 e
  rw [this]
theorem updL_inv {H:Hp} {news:List (Addr × HO)} {b:Addr} {o:HO} (h:updL H news b = some o):(b,o)∈news∨(b ∉ news.map (·.1)∧H b = some o):=by
  by_cases hb:b∈news.map (·.1)
  · left
    unfold updL at h
    cases e:news.lookup b with
    | some u =>
      rw [e] at h
      have:u = o:=Option.some.inj h
      subst this
      clear h hb
      induction news with
      | nil=>cases e
      | cons p r ih =>
        obtain ⟨x,y⟩:=p
        rw [List.lookup_cons] at e
        cases hx:b == x with
        | true =>
          rw [hx] at e
          have e1:b = x:=by simpa using hx
          have e2:y = u:=Option.some.inj e
          subst e1; subst e2
          exact List.mem_cons_self ..
        | false =>
          rw [hx] at e
          exact List.mem_cons_of_mem _ (ih e)
    | none =>
      exfalso
      clear h
      induction news with
      | nil=>cases hb
      | cons p r ih =>
        obtain ⟨x,y⟩:=p
        rw [List.lookup_cons] at e
        cases hx:b == x with
        | true=>rw [hx] at e; cases e
        | false =>
          rw [hx] at e
          rw [List.map_cons,List.mem_cons] at hb
          rcases hb with z | z
          · have:(b == x) = true:=by simpa using z
            rw [this] at hx; cases hx
          · exact ih z e
  · rw [updL_old hb] at h
    exact .inr ⟨hb,h⟩
theorem updL_same {H:Hp} {news:List (Addr × HO)} (hn:∀ p∈news,H p.1 = none):Same H (updL H news):=fun b o e=>by
  rw [updL_old fun z=>?_]
  · exact e
  · obtain ⟨p,hp,rfl⟩:=List.mem_map.mp z
    rw [hn p hp] at e; cases e
theorem ObjOk.obj {P:Program} {w:World} {H:Hp} {h:Heap} {a:Addr} {o:HO} (x:ObjOk P w H h a o):∃ u,h.get? a = some u:=by
  cases o with
  | lst xs=>obtain ⟨_,_,_,_,e⟩:=x; exact ⟨_,e⟩
  | tup xs=>obtain ⟨_,_,_,_,e,_⟩:=x; exact ⟨_,e⟩
  | dK kvs=>obtain ⟨_,_,_,_,o,_,_,e,_⟩:=x; exact ⟨_,e⟩
  | dT kvs=>obtain ⟨_,_,_,_,o,_,_,e,_⟩:=x; exact ⟨_,e⟩
  | set S n=>obtain ⟨o,_,_,_,e,_⟩:=x; exact ⟨_,e⟩
  | ins C dx fs=>obtain ⟨_,_,_,e,_⟩:=x; exact ⟨_,e⟩
  | own y=>exact x
  | xd fs=>obtain ⟨_,⟨_,_,_,e,_⟩,_⟩:=x; exact ⟨_,e⟩
  | rng lo hi=>obtain ⟨_,_,_,e⟩:=x; exact ⟨_,e⟩
  | frz ob u=>obtain ⟨e,_⟩:=x; exact ⟨_,e⟩
  | tbl ps=>exact ⟨_,(show h.get? a = some _ from x)⟩
  | met f y=>exact ⟨_,(show h.get? a = some _ from x)⟩
  | ext φ=>obtain ⟨_,e,_⟩:=x; exact e
theorem HOk.free {P:Program} {w:World} {H:Hp} {h:Heap} {a:Addr} (x:HOk P w H h) (e:h.get? a = none):H a = none:=by
  cases q:H a with
  | none=>rfl
  | some u =>
    obtain ⟨v,hv⟩:=(x a u q).obj
    rw [hv] at e; cases e
section
variable {X:Cx} {pins:List (Addr × Obj)} {σ:St} {H:Hp} {s:Shared}
theorem Inv.many {h':Heap} {t':Nat} {news:List (Addr × HO)} (I:Inv X pins σ H s) (k:∀ b u,s.heap.get? b = some u→h'.get? b = some u) (hge:∀ p∈news,s.heap.get? p.1 = none)
    (new:∀ p∈news,ObjOk X.prog X.w (updL H news) h' p.1 p.2):Inv X pins σ (updL H news) { s with heap:=h',toks:=t' }:=by
  have hn:∀ p∈news,H p.1 = none:=fun p hp=>I.hok.free (hge p hp)
  have sm:=updL_same hn
  have hold:∀ b (o:Obj),s.heap.get? b = some o→updL H news b = H b:=fun b o e=>updL_old fun z=>by
    obtain ⟨p,hp,rfl⟩:=List.mem_map.mp z
    rw [hge p hp] at e; cases e
  refine I.un (H':=updL H news) ⟨fun b o e _ _ _=>k b o e,fun b o e _ _ _=>⟨o.slots,k b o e⟩,fun b o e n _=>by rw [hold b o e]; exact n,fun b o e _=>⟨o,k b o e⟩,fun b xs e=>sm b _ e,fun b o u e=>sm b _ e,fun b ps e=>⟨#[],by rw [sm b _ e]; simp⟩⟩ fun b u e=>?_
  rcases updL_inv e with z | ⟨_,z⟩
  · exact new (b,u) z
  · exact (I.hok b u z).stay (fun c v _ q=>k c v q) (fun c q=>sm c _ q) fun c xs q=>sm c _ q
end
def vwObj (d:Addr):Obj:={ cls:=.type "dict_items",data:=.fields #[.ref d] }
def VW (p d:Addr):HO:=.ext fun h=>h.get? p = some (vwObj d)
section
variable {X:Cx}
def rItems:V→List V→Hp→VK→Prop:=fun x vs H Q=>∃ d kvs,x = .ref d∧vs = []∧H d = some (.dK kvs)∧∀ p,H p = none→Q (.ref p) (upd H p (VW p d))
theorem mt_items:MtM X "dict.items" rItems:=by
  intro pins s σ H x vs v us Q I rx rv h
  obtain ⟨d,kvs,rfl,rfl,hd,q⟩:=h
  cases rx
  have hus:=rv.zero
  subst hus
  obtain ⟨z,hm,ws,rel,dd⟩:=dk_of I.hok hd
  refine call_meetsIn PySem.F.slot_dict_items dd.typeIs PySem.F.entry_dict_items (PySem.F.args_dict_items_1 _) (meets_dict_items (mixKind X.prog X.w) d hm) ⟨⟨_,dd⟩,?_⟩
  refine ⟨.ref s.heap.objs.size,_,I.laid (t':=s.toks) (o:=VW s.heap.objs.size d) (fun b o e=>Heap.get?_push_of_some _ e) (Nat.le_refl _) ?_,rfl,q _ (I.hok.fresh (Nat.le_refl _))⟩
  exact ⟨Heap.get?_push_size _ rfl,⟨_,Heap.get?_push_size _ rfl⟩,fun h1 h2 e k=>k _ e⟩
abbrev encK (kvs:List (Str × V)):List (Key × V):=kvs.map fun q=>(Sum.inr q.1,q.2)
theorem KV.get {kvs:List (Key × V)} {vs:List (Key × Value)}:∀ {i:Nat} {k:Key} {x:Value},KV kvs vs→vs[i]? = some (k,x)→∃ v,kvs[i]? = some (k,v)∧RelV v x:=by
  intro i k x r
  induction r generalizing i with
  | nil=>intro e; simp at e
  | cons h t ih =>
    intro e
    cases i with
    | zero =>
      have e':=Option.some.inj (by simpa using e)
      rename_i p q _ _
      obtain ⟨p1,p2⟩:=p
      subst e'
      have h1:p1 = k:=h.1
      subst h1
      exact ⟨p2,rfl,h.2⟩
    | succ i =>
      obtain ⟨v,e1,e2⟩:=ih (by simpa using e)
      exact ⟨v,by simpa using e1,e2⟩
def rSortedItems:List V→Hp→VK→Prop:=fun xs H Q=>∃ p d kvs,xs = [.ref p]∧H p = some (VW p d)∧H d = some (.dK (encK kvs))∧(kvs.map (·.1)).Nodup∧kvs.length < 64 ∧
  ∀ (out:List (Str × V)) (l:Addr) (ts:List V) (H':Hp),out.Perm kvs→out.Pairwise (fun a b=>a.1.cps.toList < b.1.cps.toList)→Same H H'→H' l = some (.lst ts)→H l = none→ts.length = out.length →
    (∀ (i:Nat) (q:Str × V),out[i]? = some q→∃ a,ts[i]? = some (.ref a)∧H a = none∧H' a = some (.tup [.str q.1,q.2]))→Q (.ref l) H'
theorem call_sortedItems (hc:X.calm = true):CallR X (.builtin "sorted") rSortedItems:=by
  intro pins s σ H xs us Q I rx h
  obtain ⟨p,d,kvs,rfl,hp,hd,nd,h64,q⟩:=h
  obtain ⟨u,rfl,ru⟩:=vals1 rx
  cases ru
  obtain ⟨z,hm,ws,rel,dd⟩:=dk_of I.hok hd
  obtain ⟨hv,_,_⟩:=I.hok p _ hp
  have hlen:ws.length = kvs.length:=by have:=rel.length; simpa using this.symm
  obtain ⟨ep,hat⟩:=dd.dictAt
  refine Calls.call_function_entry kind_sorted plain_sorted entry_sorted (args_sorted1 _) ?_
  unfold Builtin.«sorted»
  refine wpAny_bind (m:=checkCount "sorted" 1 1 _) (wpAny_pure ?_)
  refine wpAny_bind (PySem.W.kdx_collect (A:=X.A.in1) (knd:=mixKind X.prog X.w) (kvs:=ws) (ep:=ep) (I.ok.hd hc) ⟨_,hv,rfl,rfl⟩ hat (by rw [hlen,sizeLine_eq]; omega) fun h' tk as hk hl hG=>?_)
  have hasl:as.length = kvs.length:=hl.trans hlen
  refine wpAny_bind (wpAny_newList ?_ (by rw [List.length_map,hasl,sizeLine_eq]; omega))
  generalize hB:h'.objs.size = B
  have hoL:(h'.push { cls:=.type "list",data:=.seq (as.map Value.ref).toArray }).get? B = some (seqObj "list" (as.map Value.ref).toArray 0):=by
    rw [← hB]; exact Heap.get?_push_size _ rfl
  have asB:∀ a∈as,a≠B:=fun a ha=>by rw [← hB]; exact Nat.ne_of_lt (hG.there ha)
  have hpair:∀ (i:Nat) (a:Addr),as[i]? = some a→∃ (q:Str × V) (t:Tok) (x:Value),kvs[i]? = some q∧RelV q.2 x∧h'.get? a = some { cls:=.type "tuple",data:=.seq #[.str q.1 t,x] }:=fun i a e=>by
    obtain ⟨key,k,x,e1,e2,e3⟩:=hG.pairs i a e
    obtain ⟨v,f1,f2⟩:=rel.get e1
    rw [List.getElem?_map] at f1
    cases g:kvs[i]? with
    | none=>rw [g] at f1; cases f1
    | some q =>
      rw [g] at f1
      have f1':((Sum.inr q.1:Key),q.2) = (k,v):=Option.some.inj f1
      obtain ⟨g1,g2⟩:=Prod.mk.inj f1'
      subst g1; subst g2
      have e2':keyIs (Sum.inr q.1) key = true:=e2
      rcases keyIs_shape e2' with ⟨j,t,z1,_⟩ | ⟨y,t,z1,z2⟩
      · cases z1
      · have:q.1 = y:=Sum.inr.inj z1
        subst this; subst z2
        exact ⟨q,t,x,rfl,f2,e3⟩
  refine wpAny_bind (wpAny_holding (wpAny_call_entry slot_list_sort ⟨_,hoL,rfl⟩ entry_list_sort (MyS.sort_pairs (ks:=kvs.map (·.1)) hoL (by simp [hasl]) (fun i v e=>?_) nd (by simpa [hasl] using h64) fun pm h2 e2 hp1 hp2 hk2 ho2=>⟨_,rfl,?_⟩) (args_list_sort _)))
  · rw [List.getElem?_map] at e
    cases g:as[i]? with
    | none=>rw [g] at e; cases e
    | some a =>
      rw [g] at e
      have e':v = .ref a:=(Option.some.inj e).symm
      subst e'
      obtain ⟨q,t,x,f1,f2,f3⟩:=hpair i a g
      have ha:a∈as:=List.mem_of_getElem? g
      exact ⟨q.1,by rw [List.getElem?_map,f1]; rfl,a,_,t,x,0,rfl,asB a ha,Heap.get?_push_of_some _ f3,rfl,rfl⟩
  · refine wpAny_pure ⟨_,rfl,?_⟩
    have hpl:pm.length = kvs.length:=by have:=hp1.length_eq; simpa [hasl] using this
    have pmlt:∀ i∈pm,i < kvs.length:=fun i hi=>by
      have:=(hp1.mem_iff).mp hi
      simpa [hasl] using this
    have hold:∀ b o,s.heap.get? b = some o→h2.get? b = some o:=fun b o e=>by
      have e1:=hk b o e
      refine hk2 b o ?_ (Heap.get?_push_of_some _ e1)
      rw [← hB]; exact Nat.ne_of_lt (Heap.lt_size e1)
    have dflt:Str × V:=(⟨#[]⟩,.non)
    let out:List (Str × V):=pm.map fun i=>kvs.getD i (⟨#[]⟩,.non)
    let ts:List V:=pm.map fun i=>V.ref (as.getD i 0)
    let news:List (Addr × HO):=(B,.lst ts) :: (List.range kvs.length).map fun i=>(as.getD i 0,.tup [.str (kvs.getD i (⟨#[]⟩,.non)).1,(kvs.getD i (⟨#[]⟩,.non)).2])
    have asget:∀ i,i < kvs.length→as[i]? = some (as.getD i 0):=fun i hi=>by
      have hi':i < as.length:=by omega
      simp [hi']
    have kvget:∀ i,i < kvs.length→kvs[i]? = some (kvs.getD i (⟨#[]⟩,.non)):=fun i hi=>by simp [hi]
    have asnd:as.Nodup:=hG.rise.imp fun {a b} hab=>Nat.ne_of_lt hab
    have hnd:(news.map (·.1)).Nodup:=by
      show (B :: ((List.range kvs.length).map fun i=>(as.getD i 0,HO.tup [.str (kvs.getD i (⟨#[]⟩,.non)).1,(kvs.getD i (⟨#[]⟩,.non)).2])).map (·.1)).Nodup
      rw [List.map_map]
      refine List.nodup_cons.mpr ⟨fun hm=>?_,?_⟩
      · obtain ⟨i,hi,e⟩:=List.mem_map.mp hm
        have e':as.getD i 0 = B:=e
        exact asB _ (List.mem_of_getElem? (asget i (List.mem_range.mp hi))) e'
      · rw [List.Nodup,List.pairwise_map,List.pairwise_iff_getElem]
        intro i j hi hj hij e
        simp only [List.length_range] at hi hj
        simp only [List.getElem_range] at e
        have e':as.getD i 0 = as.getD j 0:=e
        have hi':i < as.length:=by omega
        have hj':j < as.length:=by omega
        have e1:as.getD i 0 = as[i]:=by simp [hi']
        have e2:as.getD j 0 = as[j]:=by simp [hj']
        rw [e1,e2] at e'
        have:=(List.getElem_inj asnd).mp e'
        omega
    have hfr:∀ q∈news,s.heap.get? q.1 = none:=fun q hq=>by
      rcases List.mem_cons.mp hq with e | e
      · rw [e]
        cases g:s.heap.get? B with
        | none=>rfl
        | some o =>
          have h0:=Heap.lt_size (hk B o g)
          rw [hB] at h0
          exact absurd h0 (Nat.lt_irrefl _)
      · obtain ⟨i,hi,e'⟩:=List.mem_map.mp e
        rw [← e']
        exact Heap.get?_none_of_le (Nat.le_of_lt (hG.above _ (List.mem_of_getElem? (asget i (List.mem_range.mp hi)))))
    have hH:∀ q∈news,H q.1 = none:=fun q hq=>I.hok.free (hfr q hq)
    have tupM:∀ i,i < kvs.length→(as.getD i 0,HO.tup [.str (kvs.getD i (⟨#[]⟩,.non)).1,(kvs.getD i (⟨#[]⟩,.non)).2])∈news:=fun i hi =>
      List.mem_cons_of_mem _ (List.mem_map.mpr ⟨i,List.mem_range.mpr hi,rfl⟩)
    have IM:Inv X pins σ (updL H news) { s with heap:=h2,toks:=tk }:=by
      refine I.many hold hfr fun q hq=>?_
      rcases List.mem_cons.mp hq with e | e
      · subst e
        refine ⟨?_,(pm.map fun i=>(as.map Value.ref).getD i Value.none),_,?_,ho2⟩
        · show (pm.map _).length≤_
          rw [List.length_map,hpl,sizeLine_eq]; omega
        · have go:∀ l:List Nat,(∀ i∈l,i < kvs.length)→Vals (l.map fun i=>V.ref (as.getD i 0)) (l.map fun i=>(as.map Value.ref).getD i Value.none):=by
            intro l
            induction l with
            | nil=>intro _; exact .nil
            | cons i l ih =>
              intro hl
              have hi:i < as.length:=by have:=hl i (List.mem_cons_self ..); omega
              refine .cons ?_ (ih fun j hj=>hl j (List.mem_cons_of_mem _ hj))
              show (as.map Value.ref).getD i Value.none = Value.ref (as.getD i 0)
              simp [hi]
          exact go pm pmlt
      · obtain ⟨i,hi,e'⟩:=List.mem_map.mp e
        have hi':=List.mem_range.mp hi
        subst e'
        obtain ⟨q,t,x,f1,f2,f3⟩:=hpair i _ (asget i hi')
        rw [kvget i hi'] at f1
        have f1':=Option.some.inj f1
        refine ⟨by show 2≤sizeLine; decide,[.str q.1 t,x],?_,?_⟩
        · rw [f1']
          exact .cons ⟨t,rfl⟩ (.cons f2 .nil)
        · refine ⟨_,hk2 _ _ (asB _ (List.mem_of_getElem? (asget i hi'))) (Heap.get?_push_of_some _ f3),rfl,0,rfl⟩
    refine ⟨.ref B,updL H news,IM,rfl,q out B ts (updL H news) ?_ ?_ (updL_same hH) (updL_new hnd (List.mem_cons_self ..)) (hH _ (List.mem_cons_self ..)) (by simp [out,ts]) fun i q' e=>?_⟩
    ·
      have e1:(List.range kvs.length).map (fun i=>kvs.getD i (⟨#[]⟩,.non)) = kvs:=by
        apply List.ext_getElem
        · simp
        · intro i h1 h2
          have hi:i < kvs.length:=by simpa using h1
          simp [hi]
      have:=(by simpa [hasl] using hp1:pm.Perm (List.range kvs.length)).map (fun i=>kvs.getD i (⟨#[]⟩,.non))
      rw [e1] at this
      exact this
    · show (pm.map fun i=>kvs.getD i (⟨#[]⟩,.non)).Pairwise _
      rw [List.pairwise_map]
      rw [List.pairwise_map] at hp2
      refine List.Pairwise.imp_of_mem ?_ hp2
      intro i j hi hj hij
      have e1:MyS.keyAt (kvs.map (·.1)) i = (kvs.getD i (⟨#[]⟩,.non)).1.cps.toList:=by
        have:=pmlt i hi
        simp [MyS.keyAt,this]
      have e2:MyS.keyAt (kvs.map (·.1)) j = (kvs.getD j (⟨#[]⟩,.non)).1.cps.toList:=by
        have:=pmlt j hj
        simp [MyS.keyAt,this]
      rw [e1,e2] at hij
      exact hij
    · have e':(pm.map fun i=>kvs.getD i (⟨#[]⟩,.non))[i]? = some q':=e
      rw [List.getElem?_map] at e'
      cases g:pm[i]? with
      | none=>rw [g] at e'; cases e'
      | some j =>
        rw [g] at e'
        have hj:=pmlt j (List.mem_of_getElem? g)
        have e2:kvs.getD j (⟨#[]⟩,.non) = q':=Option.some.inj e'
        refine ⟨as.getD j 0,?_,hH _ (tupM j hj),?_⟩
        · show (pm.map fun i=>V.ref (as.getD i 0))[i]? = _
          rw [List.getElem?_map,g]; rfl
        · rw [← e2]
          exact updL_new hnd (tupM j hj)
end
end L2
end
section
set_option Elab.async false
set_option linter.all false
set_option maxRecDepth 100000
set_option maxHeartbeats 1000000
namespace L2
open PySem PySem.Spec PyProof.Rows
def Its (z:Str):It:=⟨fun i _=>i < z.cps.size,fun i H x H'=>H' = H∧∃ c,z.cps[i]? = some c∧x = .str ⟨#[c]⟩,fun i _=>i = z.cps.size⟩
theorem turn_str {P:Program} {w:World} {K:PySem.W.Frag} {tg:Expr} (it:Addr) (z:Str) (t:Tok) (ty:String) (hno:["enumerate", "zip", "dict_itemiterator", "dict_reverseitemiterator", "odict_iterator", "itertools.zip_longest", "itertools.pairwise"].contains ty = false)
    (hW:∀ A:Around,A.handled = none→Walks P w A it [it] [it] z.cps.size (SignAt z) (fun i h=>h.IsStrIter it ty z t i))
    (hS:∀ (A:Around) (i:Nat) (s:Shared) (Q:Value→Shared→Prop) (E:Value→Shared→Prop),s.heap.IsStrIter it ty z t i→Q (.ref it) s→wpAny (model P w) A (pyIter (.ref it)) Q E s):Turn P w K tg (Its z) [it] it (fun i h=>h.IsStrIter it ty z t i) where
  mem:=by simp
  obj:=fun i h st b hb=>by
    have e:b = it:=by simpa using hb
    subst e
    obtain ⟨o,e,c,d⟩:=st
    exact ⟨o,e,fun v z=>by rw [d] at z; cases z⟩
  keep:=fun i h h' st k=>let ⟨o,e,r⟩:=st; ⟨o,k it (by simp) o e,r⟩
  item:=by
    intro X hP hw hK hc i pins s σ H E I hf st hg
    subst hP hw hK
    obtain ⟨f0,f1,f2,f3,f4,f5⟩:=hf it (by simp)
    refine (hW X.A (I.ok.hd hc)).item i s _ _ hg st fun v h' tk hv st' kk=>?_
    obtain ⟨c,u,hcu,rfl⟩:=hv
    have I1:Inv X pins σ H { s with heap:=h',toks:=tk }:=I.turned (fun b o hb e=>kk b o (by simpa using hb) e) f0 f1 f3 f4 f5
    obtain ⟨o,e,oc,od⟩:=id st'
    exact ⟨_,rfl,go_of (s:={ s with heap:=h',toks:=tk }) e oc od hno ⟨.str ⟨#[c]⟩,H,I1,⟨u,rfl⟩,⟨rfl,c,hcu,rfl⟩,st',fun b hb=>(hf b hb).1⟩⟩
  done:=by
    intro X hP hw hK hc i pins s σ H E I hf st hg
    subst hP hw hK
    obtain ⟨f0,f1,f2,f3,f4,f5⟩:=hf it (by simp)
    have hi:i = z.cps.size:=hg
    subst hi
    exact (hW X.A (I.ok.hd hc)).done s _ _ st fun h' tk kk=>⟨rfl,I.turned (fun b o hb e=>kk b o (by simpa using hb) e) f0 f1 f3 f4 f5⟩
  self:=hS
section
variable {X:Cx} {tg:Expr}
def iStr (tl:TE):TI:=fun σ H R=>tl σ H fun x H1=>∃ z,x = .str z∧R (Its z) H1
theorem pi_str {l:Expr} {tl:TE} (hl:PE X l tl):PI X tg l (iStr tl):=by
  intro pins s σ H R I h
  refine thn (hl pins s σ H _ I h) fun v s1 ⟨x,H1,I1,r1,z,ez,q⟩=>?_
  subst ez
  obtain ⟨t,rfl⟩:=r1
  have hn:∀ b∈[s1.heap.objs.size],FpOk X pins H1 b:=fun b hb=>by
    have e:b = s1.heap.objs.size:=by simpa using hb
    subst e
    exact I1.fpOk (Nat.le_refl _) (I1.hok.fresh (Nat.le_refl _))
  cases ha:z.cps.all (· < 128) with
  | false =>
    refine wpAny_pyIter_wide ha ⟨s1.heap.objs.size,[s1.heap.objs.size],_,_,H1,rfl,I1.kept (t':=s1.toks) fun b o e=>Heap.get?_push_of_some _ e,turn_str _ z t "str_iterator" (by decide) (fun A hA=>Walks.strWide hA _ z t) (fun A i s Q E st h=>wpAny_pyIter_striter_wide st h),⟨_,Heap.get?_push_size _ rfl,rfl,rfl⟩,hn,q⟩
  | true =>
    refine wpAny_pyIter_ascii ha ⟨s1.heap.objs.size,[s1.heap.objs.size],_,_,H1,rfl,I1.kept (t':=s1.toks) fun b o e=>Heap.get?_push_of_some _ e,turn_str _ z t "str_ascii_iterator" (by decide) (fun A hA=>Walks.strAscii hA _ z t) (fun A i s Q E st h=>wpAny_pyIter_striter_ascii st h),⟨_,Heap.get?_push_size _ rfl,rfl,rfl⟩,hn,q⟩
end
theorem idx_norm (lo hi:Option Int) (n:Nat):Builtin.Str.strSliceIndices lo hi 1 n = Builtin.Str.strSliceIndices (some ((HT.sIx n 0 lo:Nat):Int)) (some ((HT.sIx n n hi:Nat):Int)) 1 n:=by
  have hl:=HT.sIx_le n 0 (Nat.zero_le _) lo
  have hh:=HT.sIx_le n n (Nat.le_refl _) hi
  have key:∀ (o:Option Int) (d:Nat),d≤n→(match o with | none=>(d:Int) | some i=>(let i:=if i < 0 then i + (n:Int) else i; max 0 (min i (n:Int)))) = ((HT.sIx n d o:Nat):Int):=by
    intro o d hd
    cases o with
    | none=>rfl
    | some i =>
      show max 0 (min (if i < 0 then i + (n:Int) else i) (n:Int)) = (((if i < 0 then (i + (n:Int)).toNat else min i.toNat n):Nat):Int)
      by_cases h:i < 0
      · rw [if_pos h,if_pos h]; omega
      · rw [if_neg h,if_neg h]; omega
  have e1:=key lo 0 (Nat.zero_le _)
  have e2:=key hi n (Nat.le_refl _)
  have k1:max (0:Int) (min ((HT.sIx n 0 lo:Nat):Int) (n:Int)) = ((HT.sIx n 0 lo:Nat):Int):=by omega
  have k2:max (0:Int) (min ((HT.sIx n n hi:Nat):Int) (n:Int)) = ((HT.sIx n n hi:Nat):Int):=by omega
  have n1:¬ (((HT.sIx n 0 lo:Nat):Int) < 0):=by omega
  have n2:¬ (((HT.sIx n n hi:Nat):Int) < 0):=by omega
  unfold Builtin.Str.strSliceIndices
  simp only [show ((1:Int) > 0) = True from by simp,if_true,n1,n2,if_false,k1,k2]
  have z1:∀ i:Int,(max 0 (min (if i < 0 then i + (n:Int) else i) (n:Int))) = ((HT.sIx n 0 (some i):Nat):Int):=fun i=>key (some i) 0 (Nat.zero_le _)
  have z2:∀ i:Int,(max 0 (min (if i < 0 then i + (n:Int) else i) (n:Int))) = ((HT.sIx n n (some i):Nat):Int):=fun i=>key (some i) n (Nat.le_refl _)
  have w1:((HT.sIx n 0 none:Nat):Int) = 0:=rfl
  have w2:((HT.sIx n n none:Nat):Int) = n:=rfl
  cases lo with
  | none =>
    cases hi with
    | none=>rfl
    | some j=>dsimp only; rw [z2,w1]
  | some i =>
    cases hi with
    | none=>dsimp only; rw [z1,w2]
    | some j =>
      dsimp only
      have zz:=z1 i
      rw [zz]
      rw [z2]
theorem txt_slice (x:Str) (lo hi:Option Int):Txt.slice x lo hi = ⟨((x.cps.toList.drop (HT.sIx x.length 0 lo)).take (HT.sIx x.length x.length hi - HT.sIx x.length 0 lo)).toArray⟩:=by
  have hl:=HT.sIx_le x.length 0 (Nat.zero_le _) lo
  have hh:=HT.sIx_le x.length x.length (Nat.le_refl _) hi
  unfold Txt.slice
  rw [idx_norm lo hi]
  generalize HT.sIx x.length 0 lo = a at *
  generalize HT.sIx x.length x.length hi = b at *
  have hlen:x.cps.toList.length = x.length:=by simp [Str.length]
  by_cases hab:a≤b
  · have sp:=StrLaws.sliced_plain x hab hh
    split
    · rename_i h
      rw [StrLaws.strSliceIndices_plain hab hh] at h
      have h':b - a = x.length:=by simpa using h
      have ha:a = 0:=by omega
      have hb:b = x.cps.toList.length:=by omega
      subst ha
      apply MyS.Str_ext
      show x.cps.toList = ((x.cps.toList.drop 0).take (b - 0)).toArray.toList
      rw [List.drop_zero,Nat.sub_zero,hb,List.take_length]
    · rw [sp]
  · have hb:b - a = 0:=by omega
    have e:Builtin.Str.strSliceIndices (some (a:Int)) (some (b:Int)) 1 x.length = []:=by
      have h1:¬ ((a:Int) < 0):=by omega
      have h2:¬ ((b:Int) < 0):=by omega
      have e1:max (0:Int) (min (a:Int) (x.length:Int)) = a:=by omega
      have e2:max (0:Int) (min (b:Int) (x.length:Int)) = b:=by omega
      simp only [Builtin.Str.strSliceIndices,sliceRange,h1,h2,if_false,e1,e2,show ((1:Int) > 0) = True from by simp,if_true]
      rw [if_neg (by omega)]
      rfl
    rw [e,hb]
    split
    · rename_i h
      have h':0 = x.length:=by simpa using h
      omega
    · simp
section
variable {X:Cx} {e:Expr} {te:TE} {lo hi:Option Expr} {tl th:TO} {pos p2:Pos}
def cutS (z:Str) (lo hi:Option Int):Str:=⟨((z.cps.toList.drop (HT.sIx z.length 0 lo)).take (HT.sIx z.length z.length hi - HT.sIx z.length 0 lo)).toArray⟩
def tSlS (te:TE) (tl th:TO):TE:=fun σ H Q=>te σ H fun x H1=>tl σ H1 fun l H2=>th σ H2 fun u H3=>∃ z,x = .str z∧z.length≤sizeLine∧Q (.str (cutS z l u)) H3
theorem pe_sliceS (he:PE X e te) (hl:PO X lo tl) (hu:PO X hi th):PE X (.Subscript e (.Slice lo hi none p2) pos) (tSlS te tl th):=by
  intro pins s σ H Q I h
  refine Subscript_ (thn (he pins s σ H _ I h) fun v s1 ⟨x,H1,I1,r1,q1⟩=>?_)
  refine wpAny_Slice (thn (hl pins s1 σ H1 _ I1 q1) fun vl s2 ⟨l,H2,I2,pl,q2⟩=>thn (hu pins s2 σ H2 _ I2 q2) fun vu s3 ⟨u,H3,I3,pu,q3⟩=>?_)
  rw [evalPart_none]
  refine wpAny_pure ?_
  obtain ⟨z,rfl,hz,q⟩:=q3
  obtain ⟨t,rfl⟩:=r1
  have hk:KeptH (fun h=>∀ b o,s3.heap.get? b = some o→h.get? b = some o):=fun h ob hP b o q=>Heap.get?_push_of_some _ (hP b o q)
  have fin:∀ h' t' k,(∀ b o,s3.heap.get? b = some o→h'.get? b = some o)→EP X pins σ Q (.str (Txt.slice z l u) t') { s3 with heap:=h',toks:=k }:=fun h' t' k hP=>by
    refine ⟨.str (cutS z l u),H3,I3.kept hP,⟨t',?_⟩,q⟩
    rw [txt_slice]; rfl
  have go:ItemOn (model X.prog X.w) X.A X.xe (.str z t) (.ref s3.heap.objs.size) (EP X pins σ Q) { s3 with heap:=s3.heap.push { cls:=.type "slice",data:=.fields #[vl,vu,.none] } }:=by
    cases pl with
    | none =>
      cases pu with
      | none=>exact SBH.sliceItem_nn hk (fun _ _ q=>q) fin hz
      | int j uj=>exact SBH.sliceItem_ns hk (fun _ _ q=>q) fin hz
    | int i ui =>
      cases pu with
      | none=>exact SBH.sliceItem_sn hk (fun _ _ q=>q) fin hz
      | int j uj=>exact SBH.sliceItem_ss hk (fun _ _ q=>q) fin hz
  obtain ⟨T,id,hT,ht,hg⟩:=go
  exact tail_any (ops:=[.ref s3.heap.objs.size,.str z t]) ht hT hg (by with_unfolding_all rfl)
end
section
variable {X:Cx}
theorem call_all (hc:X.calm = true):CallR X (.builtin "all") (fun xs H Q=>∃ (p:Addr) (bs:List Bool),xs = [.ref p]∧SqL X.K H p (bs.map V.bl)∧Q (.bl (bs.all id)) H):=by
  intro pins s σ H xs us Q I r h
  obtain ⟨p,bs,rfl,hq,q⟩:=h
  obtain ⟨u,rfl,ru⟩:=vals1 r
  cases ru
  obtain ⟨its,rv,pl,hz⟩:=I.list hq
  have hp:p≠s.heap.objs.size:=by
    obtain ⟨o,n,e,_⟩:=pl
    exact Nat.ne_of_lt (Heap.lt_size e)
  have vget:∀ (i:Nat) (v:Value),its.toArray[i]? = some v→v = .bool (bs.getD i false):=fun i v e=>by
    have e':its[i]? = some v:=by simpa using e
    have hl:=rv.length
    have hi:i < bs.length:=by
      have:=(List.getElem?_eq_some_iff.mp e').1
      simp at hl; omega
    obtain ⟨u,e1,e2⟩:=rv.get (i:=i) (x:=.bl (bs.getD i false)) (by rw [List.getElem?_map]; simp [hi])
    rw [e'] at e1
    cases e1
    exact e2
  refine call_all_walk (wpAny_pyIter_list pl.isList ?_)
  refine ⟨s.heap.objs.size,_,_,its.toArray.size,_,_,fun i=>bs.getD i false,rfl,Walks.list (A:=X.A.in1) (I.ok.hd hc) _ p hp its.toArray,⟨⟨_,Heap.get?_push_size _ rfl,rfl,rfl⟩,?_⟩,fun i v s' Q' E' hv hQ=>?_,fun h' tk hk=>?_⟩
  · exact pl.isList.at fun o e=>Heap.get?_push_of_some _ e
  · rw [vget i v hv]; exact wpAny_truthy_bool hQ
  · refine ⟨.bl (bs.all id),H,I.kept (t':=tk) (h':=h') fun b o e=>hk b o (fun z=>?_) (Heap.get?_push_of_some _ e),?_,q⟩
    · have:b = s.heap.objs.size:=by simpa using z
      exact absurd (Heap.lt_size e) (by rw [this]; exact Nat.lt_irrefl _)
    · have hl:=rv.length
      have hsz:its.toArray.size = bs.length:=by simp at hl; simp [hl]
      have:(List.range its.toArray.size).all (fun i=>bs.getD i false) = bs.all id:=by
        rw [hsz]
        rw [Bool.eq_iff_iff]
        simp only [List.all_eq_true,List.mem_range,id]
        constructor
        · intro h b hb
          obtain ⟨i,hi,e⟩:=List.getElem_of_mem hb
          have:=h i hi
          simpa [hi,e] using this
        · intro h i hi
          have:=h bs[i] (List.getElem_mem hi)
          simpa [hi] using this
      rw [this]; rfl
theorem preSum_take (ns:List Int):∀ k,k≤ns.length→preSum (fun i=>ns.getD i 0) k = (ns.take k).sum
  | 0,_=>by simp [preSum]
  | k + 1,h=>by
    show preSum (fun i=>ns.getD i 0) k + ns.getD k 0 = _
    have hk:k < ns.length:=h
    rw [preSum_take ns k (by omega),List.take_succ_eq_append_getElem hk,List.sum_append]
    simp [hk]
theorem call_sum (hc:X.calm = true):CallR X (.builtin "sum") (fun xs H Q=>∃ (p:Addr) (ns:List Int),xs = [.ref p]∧SqL X.K H p (ns.map V.int)∧Q (.int ns.sum) H):=by
  intro pins s σ H xs us Q I r h
  obtain ⟨p,ns,rfl,hq,q⟩:=h
  obtain ⟨u,rfl,ru⟩:=vals1 r
  cases ru
  obtain ⟨its,rv,pl,hz⟩:=I.list hq
  have hpl:p < s.heap.objs.size:=by
    obtain ⟨o,n,e,_⟩:=pl
    exact Heap.lt_size e
  have hl:=rv.length
  have hsz:its.toArray.size = ns.length:=by simp at hl; simp [hl]
  have hia:=intsAre_of rv
  refine call_sum_walkAnyS (wpAny_pyIter_list pl.isList ?_)
  refine ⟨s.heap.objs.size,_,_,_,its.toArray.size,_,_,fun i=>ns.getD i 0,rfl,(Walks.list (A:=X.A.in1) (I.ok.hd hc) _ p (Nat.ne_of_lt hpl) its.toArray).toS,⟨⟨_,Heap.get?_push_size _ rfl,rfl,rfl⟩,?_⟩,fun b hb=>?_,fun i v hv=>?_,fun s' t' hm=>?_⟩
  · exact pl.isList.at fun o e=>Heap.get?_push_of_some _ e
  · show b < (s.heap.push _).objs.size
    rw [size_push']
    rcases List.mem_cons.mp hb with e | hb
    · rw [e]; exact Nat.lt_succ_self _
    · rw [List.mem_singleton.mp hb]; exact Nat.lt_succ_of_lt hpl
  · have e':its[i]? = some v:=by simpa using hv
    have hi:i < ns.length:=by
      have:=(List.getElem?_eq_some_iff.mp e').1
      simp at hl; omega
    obtain ⟨u,e1,e2⟩:=rv.get (i:=i) (x:=.int (ns.getD i 0)) (by rw [List.getElem?_map]; simp [hi])
    rw [e'] at e1
    cases e1
    exact e2
  · have hk:∀ b o,s.heap.get? b = some o→s'.heap.get? b = some o:=fun b o e =>
      hm.heap b o (fun hI=>absurd (Heap.lt_size e) (by rw [List.mem_singleton.mp hI]; exact Nat.lt_irrefl _)) (Heap.get?_push_of_some _ e)
    rw [Moved.eq_with hm]
    refine ⟨.int ns.sum,H,I.kept (h':=s'.heap) (t':=s'.toks) hk,⟨t',?_⟩,q⟩
    rw [hsz,preSum_take ns ns.length (Nat.le_refl _),List.take_length]
def vvObj (d:Addr):Obj:={ cls:=.type "dict_values",data:=.fields #[.ref d] }
def VLS (p d:Addr):HO:=.ext fun h=>h.get? p = some (vvObj d)
end
end L2
end
section
set_option Elab.async false
set_option linter.all false
set_option maxRecDepth 100000
set_option maxHeartbeats 1000000
namespace L2
open PySem PySem.Spec PyProof.Rows
section
variable {X:Cx}
theorem call_isinst:CallR X (.builtin "isinstance") (fun xs H Q=>∃ x c t b,xs = [x,.ty c]∧TyOf X.K H x t∧PySem.W.kitOne X.K t (.type c) = some b∧Q (.bl b) H):=by
  intro pins s σ H xs us Q I r h
  obtain ⟨x,c,t,b,rfl,ty,e,q⟩:=h
  obtain ⟨u,w',rfl,rx,rc⟩:=vals2 r
  cases rc
  exact isinst_ok I rx ty e fun tk=>⟨.bl b,H,I.tok tk,rfl,q⟩
theorem strs_of {ss:List Str}:∀ {us:List Value},Vals (ss.map V.str) us→StrsAre us ss:=by
  induction ss with
  | nil=>intro us r; rw [List.map_nil] at r; cases r; exact .nil
  | cons x ss ih =>
    intro us r
    rw [List.map_cons] at r
    cases r with
    | cons r1 r2 =>
      obtain ⟨t,e⟩:=r1
      subst e
      exact .cons x t (ih r2)
def rJoin (K:PySem.W.Frag):V→List V→Hp→VK→Prop:=fun x vs H Q=>∃ (sep:Str) (l:Addr) (ss:List Str),x = .str sep∧vs = [.ref l]∧SqL K H l (ss.map V.str)∧(ss.map (·.length)).sum + ss.length * sep.length≤16777216∧Q (.str (Txt.join sep ss)) H
theorem mt_join:MtR X "str.join" (rJoin X.K):=by
  intro pins s σ H x vs v us Q I rx rv h
  obtain ⟨sep,l,ss,rfl,rfl,hq,hz,q⟩:=h
  obtain ⟨t,rfl⟩:=rx
  obtain ⟨u,rfl,ru⟩:=vals1 rv
  cases ru
  obtain ⟨its,r',pl,_⟩:=I.list hq
  exact join_list pl.isList (by simpa using strs_of r') hz fun t' k=>⟨.str (Txt.join sep ss),H,I.tok k,⟨t',rfl⟩,q⟩
theorem foldl_app (l:List Str):∀ a:Array Nat,(l.foldl (fun acc p=>acc ++ (⟨#[]⟩:Str).cps ++ p.cps) a).toList = a.toList ++ (l.map (·.cps.toList)).flatten:=by
  induction l with
  | nil=>intro a; simp
  | cons x r ih=>intro a; rw [List.foldl_cons,ih]; simp
theorem join_flat (ss:List Str):Txt.join ⟨#[]⟩ ss = ⟨(ss.map (·.cps.toList)).flatten.toArray⟩:=by
  apply MyS.Str_ext
  show ((ss.drop 1).foldl (fun acc p=>acc ++ (⟨#[]⟩:Str).cps ++ p.cps) (ss.headD Str.empty).cps).toList = (ss.map (·.cps.toList)).flatten.toArray.toList
  rw [foldl_app]
  cases ss with
  | nil=>rfl
  | cons x r=>simp
def rSetD:V→List V→Hp→VK→Prop:=fun x vs H Q=>∃ d kvs k v,x = .ref d∧vs = [kV k,v]∧H d = some (.dK kvs)∧kvs.length < sizeLine∧(∀ y,valV kvs k = some y→Q y H)∧(valV kvs k = none→Q v (upd H d (.dK (putK kvs k v))))
theorem mt_setdefault:MtM X "dict.setdefault" rSetD:=by
  intro pins s σ H x vs v us Q I rx rv h
  obtain ⟨d,kvs,k,y,rfl,rfl,hd,hz,q1,q2⟩:=h
  cases rx
  obtain ⟨u,w',rfl,ru,rw'⟩:=vals2 rv
  obtain ⟨z,hm,ws,rel,dd⟩:=dk_of I.hok hd
  have hwz:ws.length≤sizeLine:=by rw [← rel.length]; exact z
  refine call_meetsIn PySem.F.slot_dict_setdefault dd.typeIs PySem.F.entry_dict_setdefault (PySem.F.args_dict_setdefault_3 _ _ _) (kt_meets_setdefault (mixKind X.prog X.w) d (kV_is ru) hm w') ⟨ws,dd,hwz,fun v' hv=>?_,fun hn h' dd' hs=>?_⟩
  · have rr:=rel.val k
    rw [hv] at rr
    cases e:valV kvs k with
    | none=>rw [e] at rr; exact rr.elim
    | some y' =>
      rw [e] at rr
      exact ⟨y',H,I.tok _,rr,q1 y' e⟩
  · have rr:=rel.val k
    rw [hn] at rr
    cases e:valV kvs k with
    | some y'=>rw [e] at rr; exact rr.elim
    | none =>
      have he:∃ q,h'.get? d = some q:=let ⟨q,_,_,hq,_⟩:=dd'; ⟨q,hq⟩
      have hl:(putK kvs k y).length≤sizeLine:=by have:=length_putK kvs k y; omega
      exact ⟨y,_,d_write I (by rw [hd]; exact True.intro) hs he (dk_new hl hm (rel.put k rw') dd'),rw',q2 e⟩
def rSortedD:List V→Hp→VK→Prop:=fun xs H Q=>∃ d kvs,xs = [.ref d]∧H d = some (.dK (encK kvs))∧(kvs.map (·.1)).Nodup∧kvs.length < 64 ∧
  ∀ (out:List Str) (l:Addr),out.Perm (kvs.map (·.1))→out.Pairwise (fun a b=>a.cps.toList < b.cps.toList)→H l = none→Q (.ref l) (upd H l (.lst (out.map V.str)))
theorem call_sortedD (hc:X.calm = true):CallR X (.builtin "sorted") rSortedD:=by
  intro pins s σ H xs us Q I rx h
  obtain ⟨d,kvs,rfl,hd,nd,h64,q⟩:=h
  obtain ⟨u,rfl,ru⟩:=vals1 rx
  cases ru
  obtain ⟨z,hm,ws,rel,dd⟩:=dk_of I.hok hd
  have hlen:ws.length = kvs.length:=by have:=rel.length; simpa using this.symm
  obtain ⟨ep,hat⟩:=dd.dictAt
  refine Calls.call_function_entry kind_sorted plain_sorted entry_sorted (args_sorted1 _) ?_
  unfold Builtin.«sorted»
  refine wpAny_bind (m:=checkCount "sorted" 1 1 _) (wpAny_pure ?_)
  refine wpAny_bind (PySem.W.kdu_collect (A:=X.A.in1) (PySem.W.kdl_dict (knd:=mixKind X.prog X.w) (kvs:=ws) (ep:=ep) hm) (I.ok.hd hc) hat (by rw [hlen,sizeLine_eq]; omega) fun h' tk acc hk hacc=>?_)
  have hal:acc.toList.length = kvs.length:=by rw [Array.length_toList]; exact hacc.1.trans hlen
  have hS:StrsAre acc.toList (kvs.map (·.1)):=by
    have hall:∀ v∈acc.toList,∃ x t,v = Value.str x t:=fun v hv=>by
      obtain ⟨i,hi,e⟩:=List.getElem_of_mem hv
      obtain ⟨k,x,e1,e2⟩:=hacc.2 i v (by rw [← Array.getElem?_toList,List.getElem?_eq_getElem hi,e])
      obtain ⟨y,f1,_⟩:=KV.get rel e1
      rw [List.getElem?_map] at f1
      cases g:kvs[i]? with
      | none=>rw [g] at f1; cases f1
      | some p =>
        rw [g] at f1
        have:(Sum.inr p.1:Key) = k:=(Prod.mk.inj (Option.some.inj f1)).1
        subst this
        have e2':keyIs (Sum.inr p.1) v = true:=e2
        rcases keyIs_shape e2' with ⟨j,t,z1,_⟩ | ⟨w,t,z1,z2⟩
        · cases z1
        · exact ⟨w,t,z2⟩
    have e0:=strsAre_map acc.toList hall
    have:acc.toList.map strOf = kvs.map (·.1):=by
      apply List.ext_getElem
      · simp only [List.length_map,hal]
      · intro i h1 h2
        have hi:i < acc.toList.length:=by simpa using h1
        have hi':i < kvs.length:=by simpa using h2
        obtain ⟨k,x,e1,e2⟩:=hacc.2 i acc.toList[i] (by rw [← Array.getElem?_toList,List.getElem?_eq_getElem hi])
        obtain ⟨y,f1,_⟩:=KV.get rel e1
        rw [List.getElem?_map,List.getElem?_eq_getElem hi'] at f1
        have:(Sum.inr kvs[i].1:Key) = k:=(Prod.mk.inj (Option.some.inj f1)).1
        subst this
        have e2':keyIs (Sum.inr kvs[i].1) acc.toList[i] = true:=e2
        rcases keyIs_shape e2' with ⟨j,t,z1,_⟩ | ⟨w,t,z1,z2⟩
        · cases z1
        · have:kvs[i].1 = w:=Sum.inr.inj z1
          rw [List.getElem_map,List.getElem_map,z2,this]
          rfl
    rw [this] at e0
    exact e0
  refine wpAny_bind (wpAny_newList ?_ (by rw [hal,sizeLine_eq]; omega))
  generalize hB:h'.objs.size = B
  have hoL:(h'.push { cls:=.type "list",data:=.seq acc.toList.toArray }).get? B = some (seqObj "list" acc.toList.toArray 0):=by
    rw [← hB]; exact Heap.get?_push_size _ rfl
  refine wpAny_bind (wpAny_holding (wpAny_call_entry slot_list_sort ⟨_,hoL,rfl⟩ entry_list_sort (MyS.sort_strs (ks:=kvs.map (·.1)) hoL hS nd (by rw [hal]; exact h64) fun pm h2 e2 hp1 hp2 hk2 ho2=>⟨_,rfl,?_⟩) (args_list_sort _)))
  refine wpAny_pure ⟨_,rfl,?_⟩
  rw [hal] at hp1
  have pmlt:∀ i∈pm,i < kvs.length:=fun i hi=>List.mem_range.mp (hp1.mem_iff.mp hi)
  have hold:∀ b o,s.heap.get? b = some o→h2.get? b = some o:=fun b o e=>by
    have e1:=hk b o e
    refine hk2 b o ?_ (Heap.get?_push_of_some _ e1)
    rw [← hB]; exact Nat.ne_of_lt (Heap.lt_size e1)
  have hfB:s.heap.get? B = none:=by
    cases g:s.heap.get? B with
    | none=>rfl
    | some o =>
      have h0:=Heap.lt_size (hk B o g)
      rw [hB] at h0
      exact absurd h0 (Nat.lt_irrefl _)
  have eqU:upd H B (.lst ((pm.map fun i=>(kvs.map (·.1)).getD i ⟨#[]⟩).map V.str)) = updL H [(B,.lst ((pm.map fun i=>(kvs.map (·.1)).getD i ⟨#[]⟩).map V.str))]:=by
    funext b
    unfold upd updL
    by_cases hb:b = B
    · subst hb; simp
    · have hb':(b == B) = false:=by simpa using hb
      rw [if_neg hb,List.lookup_cons,hb']
      rfl
  have IM:Inv X pins σ (updL H [(B,.lst ((pm.map fun i=>(kvs.map (·.1)).getD i ⟨#[]⟩).map V.str))]) { s with heap:=h2,toks:=tk }:=by
    refine I.many hold (fun p hp=>?_) fun p hp=>?_
    · rcases List.mem_cons.mp hp with e | e
      · rw [e]; exact hfB
      · cases e
    · rcases List.mem_cons.mp hp with e | e
      · subst e
        refine ⟨?_,(pm.map fun i=>acc.toList.getD i Value.none),_,?_,ho2⟩
        · show (List.map V.str (pm.map _)).length≤_
          rw [List.length_map,List.length_map,hp1.length_eq,List.length_range,sizeLine_eq]; omega
        · have go:∀ l:List Nat,(∀ i∈l,i < kvs.length)→Vals ((l.map fun i=>(kvs.map (·.1)).getD i ⟨#[]⟩).map V.str) (l.map fun i=>acc.toList.getD i Value.none):=by
            intro l
            induction l with
            | nil=>intro _; exact .nil
            | cons i l ih =>
              intro hl
              have hi:=hl i (List.mem_cons_self ..)
              have hi2:i < acc.toList.length:=by omega
              refine .cons ?_ (ih fun j hj=>hl j (List.mem_cons_of_mem _ hj))
              obtain ⟨x,t,e⟩:=hS.all acc.toList[i] (List.getElem_mem hi2)
              refine ⟨t,?_⟩
              have e1:acc.toList.getD i Value.none = acc.toList[i]:=by
                rw [List.getD_eq_getElem?_getD,List.getElem?_eq_getElem hi2]; rfl
              have e2:(kvs.map (·.1)).getD i ⟨#[]⟩ = x:=by
                rw [← hS.strs,List.getD_eq_getElem?_getD,List.getElem?_map,List.getElem?_eq_getElem hi2,e]; rfl
              dsimp only
              rw [e1,e2,e]
          exact go pm pmlt
      · cases e
  refine ⟨.ref B,_,IM,rfl,?_⟩
  rw [← eqU]
  refine q _ B ?_ ?_ (I.hok.free hfB)
  · have e1:(List.range kvs.length).map (fun i=>(kvs.map (·.1)).getD i (⟨#[]⟩:Str)) = kvs.map (·.1):=by
      apply List.ext_getElem
      · simp
      · intro i h1 h2
        have hi:i < kvs.length:=by simpa using h1
        simp [hi]
    have:=hp1.map (fun i=>(kvs.map (·.1)).getD i (⟨#[]⟩:Str))
    rw [e1] at this
    exact this
  · rw [List.pairwise_map]
    rw [List.pairwise_map] at hp2
    exact hp2
theorem call_minS (hc:X.calm = true):CallR X (.builtin "min") (fun xs H Q=>∃ x y,xs = [.str x,.str y]∧Q (.str (if y.cps.toList < x.cps.toList then y else x)) H):=by
  intro pins s σ H xs us Q I r h
  obtain ⟨x,y,rfl,q⟩:=h
  obtain ⟨u,w',rfl,⟨t,rfl⟩,⟨t',rfl⟩⟩:=vals2 r
  have hT:(s.heap.push { cls:=.type "tuple",data:=.seq #[.str x t,.str y t'] }).IsTuple s.heap.objs.size #[.str x t,.str y t']:=⟨_,Heap.get?_push_size _ rfl,rfl,0,rfl⟩
  refine call_min_two (wpAny_pyIter_tuple hT ?_)
  have hsz:(s.heap.push { cls:=.type "tuple",data:=.seq #[.str x t,.str y t'] }).objs.size = s.heap.objs.size + 1:=Heap.size_push ..
  have at2:∀ (i:Nat) (v:Value),(#[Value.str x t,.str y t']:Array Value)[i]? = some v→∃ tk,v = .str (if i = 0 then x else y) tk:=fun i v e=>by
    match i,e with
    | 0, e => have : Value.str x t = v := by simpa using e
              exact ⟨t,this.symm⟩
    | 1, e => have : Value.str y t' = v := by simpa using e
              exact ⟨t',this.symm⟩
    | i + 2,e=>simp at e
  refine ⟨_,[_,s.heap.objs.size],[_],_,_,_,fun i j=>decide ((if i = 0 then x else y).cps.toList < (if j = 0 then x else y).cps.toList),rfl,Walks.tuple (A:=X.A.in1) (I.ok.hd hc) _ s.heap.objs.size (by rw [hsz]; exact Nat.ne_of_lt (Nat.lt_succ_self _)) #[.str x t,.str y t'],
    ⟨⟨_,Heap.get?_push_size _ rfl,rfl,rfl⟩,hT.push _⟩,fun c hcm=>?_,by simp,fun i j vi vj s' Q' E' hi hj hQ=>?_,fun v h' tk hP hk=>?_⟩
  · show c < ((s.heap.push _).push _).objs.size
    rw [Heap.size_push,hsz]
    rcases List.mem_cons.mp hcm with rfl | hcm
    · rw [hsz]; exact Nat.lt_succ_self _
    · rcases List.mem_cons.mp hcm with rfl | hcm
      · exact Nat.lt_succ_of_lt (Nat.lt_succ_self _)
      · cases hcm
  · obtain ⟨a,rfl⟩:=at2 i vi hi
    obtain ⟨b,rfl⟩:=at2 j vj hj
    exact lt_str hQ
  · have hold:∀ c o,s.heap.get? c = some o→h'.get? c = some o:=fun c o e=>by
      refine hk c o (fun hm=>?_) (Heap.get?_push_of_some _ (Heap.get?_push_of_some _ e))
      have hlt:=Heap.lt_size e
      have:c = (s.heap.push { cls:=.type "tuple",data:=.seq #[.str x t,.str y t'] }).objs.size:=by simpa using hm
      rw [hsz] at this
      exact absurd hlt (by rw [this]; exact Nat.not_lt.mpr (Nat.le_succ _))
    refine ⟨.str (if y.cps.toList < x.cps.toList then y else x),H,I.kept hold,?_,q⟩
    obtain ⟨tk',e⟩:=at2 _ v hP
    refine ⟨tk',?_⟩
    rw [e]
    congr 1
    show (if argBest (fun i j=>decide ((if i = 0 then x else y).cps.toList < (if j = 0 then x else y).cps.toList)) 1 = 0 then x else y) = _
    show (if (if decide (y.cps.toList < x.cps.toList) = true then 1 else 0) = 0 then x else y) = _
    by_cases hlt:y.cps.toList < x.cps.toList
    · simp [hlt]
    · simp [hlt]
theorem op_catT0:OpR X (binaryOp .Add) (fun x y H Q=>∃ a b ys,x = .ref a∧y = .ref b∧SqT X.K H a []∧SqT X.K H b ys∧Q (.ref b) H):=by
  intro pins s σ H x y v u Q I rx ry h
  obtain ⟨a,b,ys,rfl,rfl,ha,hb,q⟩:=h
  cases rx
  cases ry
  obtain ⟨its,r1,p1,_⟩:=I.tuple ha
  obtain ⟨its2,r2,p2,_⟩:=I.tuple hb
  have e0:its = []:=by cases r1; rfl
  subst e0
  obtain ⟨⟨cls,dd,data,sl⟩,ho,hc,n,hd⟩:=id p1
  obtain ⟨⟨cls2,dd2,data2,sl2⟩,ho2,hc2,n2,hd2⟩:=id p2
  simp only at hc hd hc2 hd2
  subst hc hd hc2 hd2
  exact concat_meets ⟨_,ho,rfl⟩ ⟨_,ho2,rfl⟩ noFill_tuple_add seq_tuple_add PySem.F.slot_tuple_add PySem.F.entry_tuple_add (PySem.F.args_tuple_add_2 _ _)
    (tuple_addW0 a b _ its2.toArray n n2 dd dd2 sl sl2 (by simp)) ⟨ho,ho2,⟨.ref b,H,I,rfl,q⟩⟩
end
section
variable {prog:Program} {w:World} {A:Around} {E:Value→Shared→Prop} {s:Shared}
end
section
variable {X:Cx} {e st:Expr} {te ts:TE} {pos p2:Pos}
end
end L2
end
section
set_option Elab.async false
set_option linter.all false
set_option maxRecDepth 100000
set_option maxHeartbeats 1000000
namespace L2
open PySem PySem.Spec PyProof.Rows
structure Known (J:It) (items:List V) (Hk:Hp→Prop):Prop where
  go:∀ i H,Hk H→i < items.length→J.go i H
  yld:∀ i H x H',Hk H→J.yld i H x H'→H' = H∧(i < items.length→items[i]? = some x)
  stop:∀ H,Hk H→J.stop items.length H
theorem known_range (lo:Int) (n:Nat):Known (Itr lo n) ((List.range n).map fun (i:Nat)=>V.int (lo + (i:Int))) (fun _=>True) :=
  ⟨fun i H _ h=>by show i < n; simpa using h,fun i H x H' _ h=>⟨h.1,fun hi=>by
    have hi':i < n:=by simpa using hi
    rw [List.getElem?_map,List.getElem?_range hi',h.2]; rfl⟩,fun H _=>by show n≤_; simp⟩
theorem known_list (K:PySem.W.Frag) (a:Addr) (xs:List V):Known (Itl K a) xs (fun H=>SqL K H a xs) :=
  ⟨fun i H h hi=>⟨xs,xs[i],h,List.getElem?_eq_getElem hi⟩,fun i H x H' h y=>⟨y.1,fun _=>y.2 xs h⟩,fun H h=>⟨xs,h,Nat.le_refl _⟩⟩
theorem known_tup (K:PySem.W.Frag) (a:Addr) (xs:List V):Known (Itt K a) xs (fun H=>SqT K H a xs) :=
  ⟨fun i H h hi=>⟨xs,xs[i],h,List.getElem?_eq_getElem hi⟩,fun i H x H' h y=>⟨y.1,fun _=>y.2 xs h⟩,fun H h=>⟨xs,h,Nat.le_refl _⟩⟩
theorem known_str (z:Str):Known (Its z) (z.cps.toList.map fun c=>V.str ⟨#[c]⟩) (fun _=>True) :=
  ⟨fun i H _ h=>by show i < z.cps.size; simpa using h,fun i H x H' _ h=>⟨h.1,fun _=>by
    obtain ⟨c,e1,e2⟩:=h.2
    rw [List.getElem?_map,Array.getElem?_toList,e1,e2]; rfl⟩,fun H _=>by show _ = z.cps.size; simp⟩
theorem comp_known {J:It} {items:List V} {Hk:Hp→Prop} (kn:Known J items Hk) {caps:List Nat} {n:Nat} {σ:St} {g:TG} {tc:TT} {te:TE} {F:List V→Hp→Prop} {H1:Hp} (cv:St) (k:Nat) (hn:items.length < 1000)
    (Pv:Nat→List V→Hp→Prop) (h0:Pv 0 [] H1) (hk:∀ i acc H,i≤items.length→Pv i acc H→Hk H∧acc.length≤i)
    (turn:∀ (i:Nat) (x:V) (acc:List V) (H:Hp) (ys:St) (Nx:List V→St→Hp→Prop),(∀ acc' H' zs,zs.length = k→Pv (i + 1) acc' H'→Nx acc' (cv ++ zs) H')→items[i]? = some x→ys.length = k→Pv i acc H →
      g x (cv ++ ys) H fun σ2 H3=>tc σ2 H3 fun b H4=>if b = true then te σ2 H4 fun y H5=>Nx (acc ++ [y]) σ2 H5 else Nx acc σ2 H4)
    (fin:∀ acc H,Pv items.length acc H→F acc H) (hcv:capStart caps n σ = cv ++ List.replicate k none:=by rfl) :
    ∃ W:Nat→Nat→List V→St→Hp→Prop,(∃ m,W 0 m [] (capStart caps n σ) H1)∧∀ i m acc σ' H',W i m acc σ' H' →
      (J.stop i H'∧F acc H') ∨
      (J.go i H'∧acc.length < sizeLine∧∀ x H2,J.yld i H' x H2→g x σ' H2 fun σ2 H3=>tc σ2 H3 fun b H4=>if b = true then te σ2 H4 fun y H5=>∃ m',m' < m∧W (i + 1) m' (acc ++ [y]) σ2 H5 else ∃ m',m' < m∧W (i + 1) m' acc σ2 H4):=by
  refine ⟨fun i m acc σ' H'=>i≤items.length∧m = items.length - i∧(∃ ys,ys.length = k∧σ' = cv ++ ys)∧Pv i acc H',⟨items.length,Nat.zero_le _,rfl,⟨_,by simp,hcv⟩,h0⟩,?_⟩
  rintro i m acc σ' H' ⟨hi,rfl,⟨ys,hy,rfl⟩,pv⟩
  obtain ⟨hH,ha⟩:=hk i acc H' hi pv
  by_cases e:i = items.length
  · subst e
    exact .inl ⟨kn.stop H' hH,fin acc H' pv⟩
  · have hi':i < items.length:=by omega
    refine .inr ⟨kn.go i H' hH hi',by rw [sizeLine_eq]; omega,fun x H2 hy2=>?_⟩
    obtain ⟨e2,e3⟩:=kn.yld i H' x H2 hH hy2
    subst e2
    exact turn i x acc H2 ys (fun acc' σ2 H5=>∃ m',m' < items.length - i∧(i + 1≤items.length∧m' = items.length - (i + 1)∧(∃ ys,ys.length = k∧σ2 = cv ++ ys)∧Pv (i + 1) acc' H5)) (fun acc' H5 zs hz p=>⟨items.length - (i + 1),by omega,by omega,rfl,⟨zs,hz,rfl⟩,p⟩) (e3 hi') hy pv
theorem comp_known0 {J:It} {items:List V} {Hk:Hp→Prop} (kn:Known J items Hk) {caps:List Nat} {n:Nat} {σ:St} {g:TG} {te:TE} {F:List V→Hp→Prop} {H1:Hp} (cv:St) (k:Nat) (hn:items.length < 1000)
    (Pv:Nat→List V→Hp→Prop) (h0:Pv 0 [] H1) (hk:∀ i acc H,i≤items.length→Pv i acc H→Hk H∧acc.length≤i)
    (turn:∀ (i:Nat) (x:V) (acc:List V) (H:Hp) (ys:St) (Nx:List V→St→Hp→Prop),(∀ acc' H' zs,zs.length = k→Pv (i + 1) acc' H'→Nx acc' (cv ++ zs) H')→items[i]? = some x→ys.length = k→Pv i acc H →
      g x (cv ++ ys) H fun σ2 H3=>te σ2 H3 fun y H5=>Nx (acc ++ [y]) σ2 H5)
    (fin:∀ acc H,Pv items.length acc H→F acc H) (hcv:capStart caps n σ = cv ++ List.replicate k none:=by rfl) :
    ∃ W:Nat→Nat→List V→St→Hp→Prop,(∃ m,W 0 m [] (capStart caps n σ) H1)∧∀ i m acc σ' H',W i m acc σ' H' →
      (J.stop i H'∧F acc H') ∨
      (J.go i H'∧acc.length < sizeLine∧∀ x H2,J.yld i H' x H2→g x σ' H2 fun σ2 H3=>tYes σ2 H3 fun b H4=>if b = true then te σ2 H4 fun y H5=>∃ m',m' < m∧W (i + 1) m' (acc ++ [y]) σ2 H5 else ∃ m',m' < m∧W (i + 1) m' acc σ2 H4):=by
  refine comp_known kn cv k hn Pv h0 hk (fun i x acc H ys Nx hN hx hy p=>?_) fin hcv
  have:=turn i x acc H ys Nx hN hx hy p
  have e:(fun (σ2:St) (H3:Hp)=>tYes σ2 H3 fun b H4=>if b = true then te σ2 H4 fun y H5=>Nx (acc ++ [y]) σ2 H5 else Nx acc σ2 H4) = fun σ2 H3=>te σ2 H3 fun y H5=>Nx (acc ++ [y]) σ2 H5:=by
    funext σ2 H3
    unfold tYes
    exact if_pos rfl
  rw [e]
  exact this
theorem for_known {J:It} {items:List V} {Hk:Hp→Prop} (kn:Known J items Hk) {g:TG} {tb:TS} {D:Ends} {σ:St} {H:Hp} (Pv:Nat→St→Hp→Prop) (h0:Pv 0 σ H) (hk:∀ i σ H,i≤items.length→Pv i σ H→Hk H)
    (turn:∀ (i:Nat) (x:V) (σ:St) (H:Hp) (Nx:St→Hp→Prop),(∀ σ' H',Pv (i + 1) σ' H'→Nx σ' H')→items[i]? = some x→Pv i σ H→g x σ H fun σ2 H2=>tb { D with nx:=Nx,ct:=Nx,bk:=D.nx } σ2 H2)
    (fin:∀ σ H,Pv items.length σ H→D.nx σ H) :
    ∃ W:Nat→Nat→St→Hp→Prop,(∃ m,W 0 m σ H)∧∀ i m σ H,W i m σ H →
      (J.stop i H∧D.nx σ H)∨(J.go i H∧∃ N:St→Hp→Prop,(∀ σ' H',N σ' H'→∃ m',m' < m∧W (i + 1) m' σ' H')∧∀ x H',J.yld i H x H'→g x σ H' fun σ2 H2=>tb { D with nx:=N,ct:=N,bk:=D.nx } σ2 H2):=by
  refine ⟨fun i m σ H=>i≤items.length∧m = items.length - i∧Pv i σ H,⟨items.length,Nat.zero_le _,rfl,h0⟩,?_⟩
  rintro i m σ H ⟨hi,rfl,pv⟩
  have hH:=hk i σ H hi pv
  by_cases e:i = items.length
  · subst e
    exact .inl ⟨kn.stop H hH,fin σ H pv⟩
  · have hi':i < items.length:=by omega
    refine .inr ⟨kn.go i H hH hi',Pv (i + 1),fun σ' H' p=>⟨items.length - (i + 1),by omega,by omega,rfl,p⟩,fun x H2 hy2=>?_⟩
    obtain ⟨e2,e3⟩:=kn.yld i H x H2 hH hy2
    subst e2
    exact turn i x σ H2 (Pv (i + 1)) (fun _ _ p=>p) (e3 hi') pv
theorem iteD {c A B:Prop} [Decidable c] (hc:c) (h:A):if decide c = true then A else B:=by
  rw [if_pos (decide_eq_true hc)]; exact h
theorem iteDF {c A B:Prop} [Decidable c] (hc:¬ c) (h:B):if decide c = true then A else B:=by
  rw [if_neg (fun z=>hc (of_decide_eq_true z))]; exact h
theorem Same.upd_new {H H':Hp} {a:Addr} {o:HO} (e:Same H H') (h:H a = none):Same H (upd H' a o):=fun b u q=>by
  rw [upd_ne (ne_of_none q h)]; exact e b u q
theorem Same.upd1 {H:Hp} {a:Addr} {o:HO} (h:H a = none):Same H (upd H a o):=(Same.refl H).upd_new h
def capOk (sc:Scope) (XN N:List Str) (scope:Scope):Nat→List Nat→Bool
  | _,[]=>true
  | i,c :: cs=>(match N[i]? with
    | some x=>decide (XN[c]? = some x) && decide (scope.names.lookup x = some .free) && (decide (sc.names.lookup x = some .cell) || decide (sc.names.lookup x = some .free))
    | none=>false) && capOk sc XN N scope (i + 1) cs
def compOk (sc:Scope) (XN N:List Str) (scope:Scope) (caps:List Nat):Bool :=
  decide (scope.kind = .function) && decide N.Nodup && scope.names.all (fun y=>decide (y.2≠.cell)) && scope.names.all (fun y=>decide (y.2 = .local→scope.names.lookup y.1 = some .local)) &&
  scope.names.all (fun y=>decide (y.2 = .free→sc.names.lookup y.1 = some .cell∨sc.names.lookup y.1 = some .free)) && capOk sc XN N scope 0 caps && decide (caps.length≤N.length)
theorem capOk_get {sc:Scope} {XN N:List Str} {scope:Scope}:∀ {caps:List Nat} {j:Nat},capOk sc XN N scope j caps = true→∀ i,i < caps.length →
    ∃ x,N[j + i]? = some x∧XN[caps.getD i 0]? = some x∧scope.names.lookup x = some .free∧(sc.names.lookup x = some .cell∨sc.names.lookup x = some .free)
  | [],_,_,i,hi=>by simp at hi
  | c :: cs,j,h,i,hi=>by
    unfold capOk at h
    rw [Bool.and_eq_true] at h
    obtain ⟨h1,h2⟩:=h
    cases i with
    | zero =>
      cases e:N[j]? with
      | none=>rw [e] at h1; cases h1
      | some x =>
        rw [e] at h1
        simp only [Bool.and_eq_true,Bool.or_eq_true,decide_eq_true_eq] at h1
        exact ⟨x,by simpa using e,by simpa using h1.1.1,h1.1.2,h1.2⟩
    | succ i =>
      obtain ⟨x,a,b,c',d⟩:=capOk_get h2 i (by simpa using hi)
      exact ⟨x,by rw [← a]; congr 1; omega,by simpa using b,c',d⟩
theorem compScope_of {sc:Scope} {XN N:List Str} {scope:Scope} {caps:List Nat} (h:compOk sc XN N scope caps = true):CompScope sc XN N scope caps:=by
  unfold compOk at h
  simp only [Bool.and_eq_true,decide_eq_true_eq,List.all_eq_true] at h
  obtain ⟨⟨⟨⟨⟨⟨a,b⟩,c⟩,d⟩,e⟩,f⟩,g⟩:=h
  exact ⟨a,b,c,d,e,fun i hi=>by simpa using capOk_get f i hi,g⟩
end L2
end
section
set_option Elab.async false
set_option linter.all false
set_option maxRecDepth 100000
set_option maxHeartbeats 1000000
namespace L2
open PySem PySem.Spec PyProof.Rows
section
variable {X:Cx} {pins:List (Addr × Obj)} {σ:St} {H:Hp} {s:Shared}
theorem Inv.turnedT {fp:List Addr} {h':Heap} {t':Nat} {T:Addr} {o:HO} (I:Inv X pins σ H s) (k:∀ b u,b ∉ fp→s.heap.get? b = some u→h'.get? b = some u) (hf:∀ b∈fp,FpOk X pins H b) (hT:s.heap.get? T = none)
    (new:ObjOk X.prog X.w (upd H T o) h' T o):Inv X pins σ (upd H T o) { s with heap:=h',toks:=t' }:=by
  have hn:H T = none:=I.hok.free hT
  have nit:∀ b u,H b = some u→b ∉ fp:=fun b u e z=>by rw [(hf b z).1] at e; cases e
  have sm:Same H (upd H T o):=Same.upd1 hn
  have old:∀ b (u:Obj),s.heap.get? b = some u→upd H T o b = H b:=fun b u e=>by
    rw [upd_ne]
    rintro rfl
    rw [hT] at e; cases e
  refine I.step (g':=s.gens) (d':=s.drawn) (ch:=fp) (fun b hb=>?_) (fun b o _ _ hc e _=>k b o hc e) (fun b o _ _ hc e _=>⟨o.slots,k b o hc e⟩) (fun b u _ e n=>by rw [old b u e]; exact n)
    (fun b o hc e=>⟨o,k b o hc e⟩) (fun b xs e=>sm _ _ e) (fun b u v e=>sm _ _ e) (fun b ps e=>⟨#[],by rw [sm _ _ e]; simp⟩) (fun m hm=>?_) (fun b u e=>?_) I.bare
  · obtain ⟨f0,f1,f2,f3,f4,f5⟩:=hf b hb
    exact ⟨f3,f1,f4,f5⟩
  · obtain ⟨o,es,ep,ho,r⟩:=hm
    exact ⟨o,es,ep,k _ o (fun z=>(hf _ z).2.1 rfl) ho,r⟩
  · by_cases hb:b = T
    · subst hb; rw [upd_same] at e; cases e; exact new
    · rw [upd_ne hb] at e
      refine (I.hok b u e).stay (fun c v hc q=>k c v ?_ q) (fun c q=>?_) fun c xs q=>?_
      · rcases hc with z | z
        · rw [z]; exact nit b u e
        · exact nit c _ z
      · exact sm _ _ q
      · exact sm _ _ q
end
section
variable {X:Cx} {elts:List Expr} {k:Nat} {tpos:Pos}
end
section
variable {X:Cx} {e st:Expr} {te ts:TE} {pos p2:Pos}
end
end L2
end
section
set_option Elab.async false
set_option linter.all false
set_option maxRecDepth 100000
set_option maxHeartbeats 1000000
namespace L2
open PySem PySem.Spec PyProof.Rows
theorem miss_list_keys:typeLookup (.type "list") "keys" = pure none:=am_miss_of_fast (by kernel_rfl)
theorem ga_miss_list {prog:Program} {w:World} {A:Around} {E:Value→Shared→Prop} {s:Shared} {a:Addr} {o:Obj} {xs:Array Value} {k:Nat} {name:Str} {Q:Option Value→Shared→Prop}
    (hx:s.heap.get? a = some o) (hc:o.cls = .type "list") (hdat:o.data = .seq xs k) (hd:o.dict = none) (hmiss:typeLookup (.type "list") name = pure none) (hname:(["__module__", "__name__", "__qualname__", "__doc__", "__annotations__"]:List Str).contains name = false) (hA:A.handled = none)
    (h:∀ h' tk,(∀ b ob,s.heap.get? b = some ob→h'.get? b = some ob)→Q none { s with heap:=h',toks:=tk }) (hsz:name.length + 100≤sizeLine:=by size_fits) :
    wpAny (model prog w) A (getAttr? (.ref a) name) Q E s:=by
  obtain ⟨c,dct,dat,sl⟩:=o
  simp only at hc hdat hd
  subst hc hdat hd
  obtain ⟨hp,g,d,tk,os⟩:=s
  have hT:∀ tk',(⟨hp,g,d,tk',os⟩:Shared).TypeIs (.ref a) "list" := fun _=>⟨_,hx,rfl⟩
  have f1:=sub_AttributeError
  have f3:=PySem.F.slot_list_getattribute.lookup
  have f4:=PySem.F.slot_list_getattribute.bind (.ref a)
  have f5:=am_list_getattr_none
  unfold getAttr? getAttrBy? getAttrBy
  repeat (any_goals (first | assumption | exact hT _ | ((with_reducible show wpAny _ _ (call (Value.builtin "list.__getattribute__") _ _) _ _ _); refine call_meets PySem.F.slot_list_getattribute (hT _) am_entry_list_getattribute (PySem.F.args_list_getattribute_2 _ _) (meets_getattribute_miss_list a xs k sl name _ hmiss hname hsz) ⟨hx,hA,fun h' tk' e hx'=>?_⟩) | wp_step))
  obtain ⟨t',u',he⟩:=hx'.there
  show wpAny _ _ (getattributeRaised _ _ _ _ _ _ _) _ _ _
  unfold getattributeRaised
  repeat (any_goals (first | assumption | wp_step))
  exact h _ _ hx'.of.keeps
theorem entry_dict_loop:entryFor table "dict.update.loop" = some Builtin.«dict.update.loop»:=entryFor_of_tree (by kernel_rfl)
theorem plain_dict_loop:plainId "dict.update.loop" = true:=by decide +kernel
theorem stored_new {κ:Type} [DecidableEq κ] {kvs:List (κ × Value)} {k:κ} {v:Value} (h:k ∉ kvs.map (·.1)):stored kvs k v = kvs ++ [(k,v)]:=by
  unfold stored
  rw [if_neg]
  rw [List.any_eq_true]
  rintro ⟨kv,hkv,he⟩
  exact h (List.mem_map.mpr ⟨kv,hkv,of_decide_eq_true he⟩)
section
variable {prog:Program} {w:World} {A:Around} {R:Result→Shared→Prop}
theorem loop_dict {I ax D:Addr} {items:Array Value} {kvs:List (Str × Value)} (hh:A.in1.handled = none) (hIx:ax≠I) (hDI:D≠I) (hDx:D≠ax) (hlen:kvs.length = items.size) (hz:kvs.length≤1000) (nd:(kvs.map (·.1)).Nodup) :
    ∀ (m i:Nat) (s:Shared),items.size - i = m→i≤items.size→(s.heap.IsListIter I ax i∧s.heap.IsList ax items) →
      (∀ (j:Nat) (v:Value),items[j]? = some v→∃ q,kvs[j]? = some q∧∃ b o t n,v = Value.ref b∧b≠D∧b≠I∧s.heap.get? b = some o∧o.cls = .type "tuple" ∧ o.data = .seq #[.str q.1 t,q.2] n) →
      s.heap.DictOf (mixKind prog w) D ((kvs.take i).map fun q=>((Sum.inr q.1:Key),q.2)) →
      (∀ h' tk,(∀ b o,b≠D→b≠I→s.heap.get? b = some o→h'.get? b = some o)→h'.DictOf (mixKind prog w) D (kvs.map fun q=>((Sum.inr q.1:Key),q.2))→R (.ok (.ret .none)) { s with heap:=h',toks:=tk }) →
      ∀ n:Tok,codeAny (model prog w) A (.builtin "dict.update.loop" ⟨[.ref D,.ref I,.int (i:Int) n,.none],[]⟩) R s:=by
  have W:=Walks.list (prog:=prog) (w:=w) (A:=A.in1) hh I ax hIx items
  intro m
  induction m with
  | zero =>
    intro i s hm hi st hp hd hR n
    have hin:i = items.size:=by omega
    subst hin
    refine codeAny_builtin entry_dict_loop ?_
    rw [Around.under_plainId plain_dict_loop _]
    show wpAny _ A.in1 (pyNext (.ref I) >>= _) _ _ s
    refine wpAny_bind (W.done s _ _ st fun h' tk hk=>?_)
    show wpAny _ A.in1 (Builtin.Dict.addKeywords D [] >>= _) _ _ _
    refine wpAny_bind (wpAny_pure (wpAny_pure (hR h' tk (fun b o h1 h2 e=>hk b o (by simpa using h2) e) ?_)))
    rw [← hlen,List.take_length] at hd
    obtain ⟨o,es,ep,ho,rest⟩:=hd
    exact ⟨o,es,ep,hk D o (by simpa using hDI) ho,rest⟩
  | succ m ih =>
    intro i s hm hi st hp hd hR n
    have hlt:i < items.size:=by omega
    refine codeAny_builtin entry_dict_loop ?_
    rw [Around.under_plainId plain_dict_loop _]
    show wpAny _ A.in1 (pyNext (.ref I) >>= _) _ _ s
    refine wpAny_bind (W.item i s _ _ hlt st fun v h1 tk hv st1 hk=>?_)
    obtain ⟨q,hq,b,o,t,nn,rfl,hbD,hbI,ho,hoc,hod⟩:=hp i v hv
    have ho1:h1.get? b = some o:=hk b o (by simpa using hbI) ho
    have hd1:h1.DictOf (mixKind prog w) D ((kvs.take i).map fun q=>((Sum.inr q.1:Key),q.2)):=by
      obtain ⟨o',es,ep,ho',rest⟩:=hd
      exact ⟨o',es,ep,hk D o' (by simpa using hDI) ho',rest⟩
    show wpAny _ A.in1 (holding [Value.ref b] _ >>= _) _ _ _
    refine wpAny_bind (wpAny_holding ?_)
    have hT:Shared.TypeIs { s with heap:=h1,toks:=tk } (.ref b) "tuple" := ⟨o,ho1,hoc⟩
    refine wpAny_bind (wpAny_tryCatch ?_)
    unfold Builtin.Dict.pairItems
    refine wpAny_bind (wpAny_typeOf hT ?_)
    rw [if_pos (by decide)]
    refine wpAny_bind (wpAny_seqItems ho1 hod (wpAny_pure ?_))
    show wpAny _ A.in1 (holding [Value.str q.1 t,q.2] (dictSet D (.str q.1 t) q.2)) _ _ _
    have hqi:kvs[i]? = some q:=hq
    have hi':i < kvs.length:=(List.getElem?_eq_some_iff.mp hqi).1
    have eq1:kvs[i] = q:=(List.getElem?_eq_some_iff.mp hqi).2
    refine wpAny_holding (wpAny_dictSet_pairs (knd:=mixKind prog w) (k:=Sum.inr q.1) (s:={ s with heap:=h1,toks:=tk }) (mixKind_str prog w q.1 t) hd1 (fun h2 hd2 hs2=>?_) (by rw [List.length_map,List.length_take,sizeLine_eq]; omega))
    have hnew:(Sum.inr q.1:Key) ∉ (((kvs.take i).map fun q=>((Sum.inr q.1:Key),q.2)).map (·.1)):=by
      rw [List.map_map]
      intro hm
      obtain ⟨p,hp',e⟩:=List.mem_map.mp hm
      have e':p.1 = q.1:=Sum.inr.inj e
      obtain ⟨j,hj,ej⟩:=List.getElem_of_mem hp'
      have hj1:j < i:=by rw [List.length_take] at hj; omega
      have hj2:j < kvs.length:=by omega
      rw [List.getElem_take] at ej
      have:=(List.getElem_inj (xs:=kvs.map (·.1)) (h₀:=by simpa using hj2) (h₁:=by simpa using hi') nd).mp (by rw [List.getElem_map,List.getElem_map,ej,eq1]; exact e')
      omega
    rw [stored_new hnew] at hd2
    have ed:((kvs.take i).map fun q=>((Sum.inr q.1:Key),q.2)) ++ [((Sum.inr q.1:Key),q.2)] = (kvs.take (i + 1)).map fun q=>((Sum.inr q.1:Key),q.2):=by
      rw [List.take_succ_eq_append_getElem hi',eq1,List.map_append]; rfl
    rw [ed] at hd2
    show wpAny _ A.in1 (again _) _ _ _
    refine wpAny_pure ⟨plainId_quiet plain_dict_loop _,?_⟩
    have keep:∀ b o,b≠D→b≠I→s.heap.get? b = some o→h2.get? b = some o:=fun b o e1 e2 e=>by
      rw [hs2.2 b e1]; exact hk b o (by simpa using e2) e
    refine ih (i + 1) { s with heap:=h2,toks:=tk + 1 } (by omega) hlt (W.frame _ h1 h2 st1 fun b hb o e=>?_) (fun j v hv=>?_) hd2 (fun h' tk' hk' hd'=>hR h' tk' (fun b o e1 e2 e=>hk' b o e1 e2 (keep b o e1 e2 e)) hd') _
    · rw [hs2.2 b]
      · exact e
      · rintro rfl
        rcases List.mem_cons.mp hb with z | z
        · exact hDI z
        · exact hDx (by simpa using z)
    · obtain ⟨q',hq',b',o',t',n',e1,e2,e3,e4,e5⟩:=hp j v hv
      exact ⟨q',hq',b',o',t',n',e1,e2,e3,keep b' o' e2 e3 e4,e5⟩
theorem call_dict_pairs {E:Value→Shared→Prop} {s:Shared} {l:Addr} {items:Array Value} {kvs:List (Str × Value)} {Q:Value→Shared→Prop} (hh:A.handled = none) (hl:PlainL s.heap l items) (hlen:kvs.length = items.size) (hz:kvs.length≤1000) (nd:(kvs.map (·.1)).Nodup)
    (hp:∀ (j:Nat) (v:Value),items[j]? = some v→∃ q,kvs[j]? = some q∧∃ b o t n,v = Value.ref b∧s.heap.get? b = some o∧o.cls = .type "tuple" ∧ o.data = .seq #[.str q.1 t,q.2] n)
    (h:∀ h' tk,(∀ b o,s.heap.get? b = some o→h'.get? b = some o)→h'.DictOf (mixKind prog w) s.heap.objs.size (kvs.map fun q=>((Sum.inr q.1:Key),q.2))→Q (.ref s.heap.objs.size) { s with heap:=h',toks:=tk }) :
    wpAny (model prog w) A (call (.type "dict") [.ref l]) Q E s:=by
  refine callType_codes (Q₁:=fun obj s₁=>obj = .ref s.heap.objs.size∧s₁ = { s with heap:=s.heap.push { cls:=.type "dict",data:=.dict #[] } }) PySem.F.kt_called_dict (PySem.F.kt_typeCall_dict_1 _) PySem.F.entry_dict_init (kt_code_dict_new _ ⟨rfl,rfl⟩) ?_
  rintro obj s₁ ⟨rfl,rfl⟩
  have hnew:(s.heap.push { cls:=.type "dict",data:=.dict #[] }).DictOf (mixKind prog w) s.heap.objs.size []:=Heap.DictOf.new s.heap
  obtain ⟨o,n,ho,hc,hdn,hd⟩:=id hl
  have hlS:l < s.heap.objs.size:=Heap.lt_size ho
  have ho1:(s.heap.push { cls:=.type "dict",data:=.dict #[] }).get? l = some o:=Heap.get?_push_of_some _ ho
  refine ⟨hnew.typeIs,PySem.F.args_dict_init_2 _ _,?_⟩
  unfold Builtin.«dict.__init__»
  refine wpAny_bind ?_
  unfold Builtin.Dict.selfAndRest
  refine wpAny_bind (wpAny_notOrdered_dict hnew.typeIs ?_)
  show wpAny _ _ (pure (s.heap.objs.size,[Value.ref l])) _ _ _
  refine wpAny_pure ?_
  show wpAny _ _ (Builtin.Dict.updateFrom "dict.__init__" s.heap.objs.size (.ref l) [] .none) _ _ _
  unfold Builtin.Dict.updateFrom
  have hT:Shared.TypeIs { s with heap:=s.heap.push { cls:=.type "dict",data:=.dict #[] } } (.ref l) "list" := ⟨o,ho1,hc⟩
  refine wpAny_bind (wpAny_typeOf hT ?_)
  rw [if_pos (by decide)]
  refine wpAny_bind (ga_miss_list ho1 hc hd hdn miss_list_keys (by decide) (by simp [hh]) (fun h2 tk2 hk2=>?_))
  rw [if_pos (show (none:Option Value).isNone = true from rfl)]
  refine wpAny_bind (wpAny_rule (wpAny_bind ?_))
  have hl2:h2.IsList l items:=⟨o,hk2 _ _ ho1,hc,n,hd⟩
  refine wpAny_pyIter_list (s:={ s with heap:=h2,toks:=tk2 }) hl2 ?_
  have hDsz:s.heap.objs.size < h2.objs.size:=by
    obtain ⟨o',es,ep,ho',_⟩:=hnew
    exact Heap.lt_size (hk2 _ _ ho')
  have hlsz:l < h2.objs.size:=Nat.lt_trans hlS hDsz
  refine wpAny_pure ⟨plainId_quiet plain_dict_loop _,?_⟩
  have old:∀ b o,s.heap.get? b = some o→h2.get? b = some o:=fun b o e=>hk2 b o (Heap.get?_push_of_some _ e)
  refine loop_dict (I:=h2.objs.size) (ax:=l) (D:=s.heap.objs.size) (items:=items) (kvs:=kvs) (by simp [hh]) (Nat.ne_of_lt hlsz) (Nat.ne_of_lt hDsz) (Nat.ne_of_gt hlS) hlen hz nd items.size 0 _ rfl (Nat.zero_le _)
    ⟨⟨_,Heap.get?_push_size _ rfl,rfl,rfl⟩,hl2.push _⟩ (fun j v hv=>?_) ?_ (fun h' tk' hk' hd'=>⟨rfl,h h' tk' (fun b o e=>?_) hd'⟩) _
  · obtain ⟨q,hq,b,ob,t,nn,e1,e2,e3,e4⟩:=hp j v hv
    exact ⟨q,hq,b,ob,t,nn,e1,Nat.ne_of_lt (Heap.lt_size e2),Nat.ne_of_lt (Nat.lt_trans (Heap.lt_size e2) hDsz),Heap.get?_push_of_some _ (old _ _ e2),e3,e4⟩
  · rw [List.take_zero]
    obtain ⟨o',es,ep,ho',rest⟩:=hnew
    exact ⟨o',es,ep,Heap.get?_push_of_some _ (hk2 _ _ ho'),rest⟩
  · exact hk' b o (Nat.ne_of_lt (Heap.lt_size e)) (Nat.ne_of_lt (Nat.lt_trans (Heap.lt_size e) hDsz)) (Heap.get?_push_of_some _ (old _ _ e))
end
section
variable {X:Cx}
def PrsAt (K:PySem.W.Frag) (H:Hp) (ts:List V) (kvs:List (Str × V)):Prop:=ts.length = kvs.length∧∀ (i:Nat) (q:Str × V),kvs[i]? = some q→∃ a,ts[i]? = some (.ref a)∧SqT K H a [.str q.1,q.2]
theorem prs_vals {pins:List (Addr × Obj)} {σ:St} {H:Hp} {s:Shared} (I:Inv X pins σ H s) {ts:List V} {kvs:List (Str × V)} {its:List Value} (hp:PrsAt X.K H ts kvs) (rv:Vals ts its) :
    ∃ ws:List (Str × Value),KV kvs ws∧∀ (j:Nat) (v:Value),its[j]? = some v→∃ q,ws[j]? = some q∧∃ b o t n,v = Value.ref b∧s.heap.get? b = some o∧o.cls = .type "tuple" ∧ o.data = .seq #[.str q.1 t,q.2] n:=by
  have one:∀ (i:Nat) (q:Str × V) (u:Value),kvs[i]? = some q→its[i]? = some u→∃ x,RelV q.2 x∧∃ b o t n,u = Value.ref b∧s.heap.get? b = some o∧o.cls = .type "tuple" ∧ o.data = .seq #[.str q.1 t,x] n:=fun i q u hq hu=>by
    obtain ⟨a,ha,hs⟩:=hp.2 i q hq
    obtain ⟨u',e1,e2⟩:=rv.get ha
    rw [hu] at e1
    cases e1
    cases e2
    obtain ⟨its2,r2,⟨o,ho,hc,n,hd⟩,_⟩:=I.tuple hs
    obtain ⟨x1,x2,rfl,rx1,rx2⟩:=vals2 r2
    obtain ⟨t,rfl⟩:=rx1
    exact ⟨x2,rx2,a,o,t,n,rfl,ho,hc,hd⟩
  have hl:its.length = kvs.length:=by rw [← rv.length]; exact hp.1
  clear hp rv
  induction kvs generalizing its with
  | nil =>
    refine ⟨[],.nil,fun j v hv=>?_⟩
    have:its = []:=by simpa using hl
    rw [this] at hv; simp at hv
  | cons q kvs ih =>
    cases its with
    | nil=>simp at hl
    | cons u its =>
      obtain ⟨x,rx,hx⟩:=one 0 q u rfl rfl
      obtain ⟨ws,kv,hws⟩:=ih (its:=its) (fun i q' u' h1 h2=>one (i + 1) q' u' (by simpa using h1) (by simpa using h2)) (by simpa using hl)
      refine ⟨(q.1,x) :: ws,.cons ⟨rfl,rx⟩ kv,fun j v hv=>?_⟩
      cases j with
      | zero =>
        have:u = v:=by simpa using hv
        subst this
        exact ⟨_,rfl,hx⟩
      | succ j =>
        obtain ⟨q',e1,e2⟩:=hws j v (by simpa using hv)
        exact ⟨q',by simpa using e1,e2⟩
theorem KV.enc {kvs:List (Str × V)} {ws:List (Str × Value)} (h:KV kvs ws):KV (encK kvs) (ws.map fun q=>((Sum.inr q.1:Key),q.2)):=by
  induction h with
  | nil=>exact .nil
  | cons h t ih=>exact .cons ⟨congrArg Sum.inr h.1,h.2⟩ ih
def rDictL (K:PySem.W.Frag):List V→Hp→VK→Prop:=fun xs H Q=>∃ p ts kvs,xs = [.ref p]∧SqL K H p ts∧PrsAt K H ts kvs∧(kvs.map (·.1)).Nodup∧kvs.length≤1000∧∀ d,H d = none→Q (.ref d) (upd H d (.dK (encK kvs)))
theorem call_dictL (hc:X.calm = true):CallR X (.type "dict") (rDictL X.K):=by
  intro pins s σ H xs us Q I rx h
  obtain ⟨p,ts,kvs,rfl,hp,hprs,nd,hz,q⟩:=h
  obtain ⟨u,rfl,ru⟩:=vals1 rx
  cases ru
  obtain ⟨its,rv,pl,_⟩:=I.list hp
  obtain ⟨ws,kv,hws⟩:=prs_vals I hprs rv
  have hl:ws.length = kvs.length:=(Paired.length kv).symm
  have hits:its.length = kvs.length:=by rw [← rv.length]; exact hprs.1
  refine call_dict_pairs (kvs:=ws) (I.ok.hd hc) pl (by rw [hl]; simp [hits]) (by omega) (by rw [← kv.keys]; exact nd) (fun j v hv=>hws j v (by simpa using hv)) fun h' tk hk hd=>?_
  have hlo:(s.heap.objs.size == sysModules) = false:=by
    have h0:=I.big
    have h1:s.heap.objs.size≠sysModules:=Nat.ne_of_gt h0
    simpa using h1
  exact ⟨.ref s.heap.objs.size,_,I.laid (t':=tk) (o:=.dK (encK kvs)) hk (Nat.le_refl _) (dk_new (by simp [encK]; rw [sizeLine_eq]; omega) hlo kv.enc hd),rfl,q _ (I.hok.fresh (Nat.le_refl _))⟩
end
end L2
end
section
set_option autoImplicit false
namespace Kn
abbrev S:=List Nat
section
variable {κ α:Type} [DecidableEq κ]
def putA:List (κ × α)→κ→α→List (κ × α)
  | [],k,v=>[(k,v)]
  | (k',v') :: r,k,v=>if k' = k then (k',v) :: r else (k',v') :: putA r k v
def getA:List (κ × α)→κ→Option α
  | [],_=>none
  | (k',v') :: r,k=>if k' = k then some v' else getA r k
theorem getA_putA (l:List (κ × α)) (k k':κ) (v:α):getA (putA l k v) k' = if k = k' then some v else getA l k':=by
  induction l with
  | nil=>simp [putA,getA]
  | cons p r ih =>
    obtain ⟨k0,v0⟩:=p
    by_cases h:k0 = k
    · subst h
      by_cases h':k0 = k' <;> simp [putA,getA,h']
    · simp only [putA,if_neg h,getA,ih]
      by_cases h1:k0 = k'
      · subst h1
        rw [if_pos rfl,if_pos rfl,if_neg (fun e=>h e.symm)]
      · rw [if_neg h1,if_neg h1]
theorem putA_keys (l:List (κ × α)) (k:κ) (v:α):(putA l k v).map (·.1) = if k∈l.map (·.1) then l.map (·.1) else l.map (·.1) ++ [k]:=by
  induction l with
  | nil=>simp [putA]
  | cons p r ih =>
    obtain ⟨k0,v0⟩:=p
    by_cases h:k0 = k
    · subst h; simp [putA]
    · have h':¬ k = k0:=fun e=>h e.symm
      simp only [putA,if_neg h,List.map_cons,ih,List.mem_cons,h',false_or]
      split <;> simp
theorem putA_nodup {l:List (κ × α)} {k:κ} {v:α} (h:(l.map (·.1)).Nodup):((putA l k v).map (·.1)).Nodup:=by
  rw [putA_keys]
  split
  · exact h
  · rename_i hk
    exact List.nodup_append.mpr ⟨h,by simp,fun a ha b hb e=>by
      have:b = k:=by simpa using hb
      subst this; subst e; exact hk ha⟩
theorem getA_mem {l:List (κ × α)} (h:(l.map (·.1)).Nodup) (k:κ) (v:α):(k,v)∈l↔getA l k = some v:=by
  induction l with
  | nil=>simp [getA]
  | cons p r ih =>
    obtain ⟨k0,v0⟩:=p
    have h1:k0 ∉ r.map (·.1):=(List.nodup_cons.mp h).1
    have h2:=ih (List.nodup_cons.mp h).2
    by_cases e:k0 = k
    · subst e
      have g:getA ((k0,v0) :: r) k0 = some v0:=by simp [getA]
      rw [g,List.mem_cons]
      constructor
      · rintro (z | z)
        · rw [(Prod.mk.inj z).2]
        · exact absurd (List.mem_map_of_mem (f:=(·.1)) z) h1
      · intro z; rw [Option.some.inj z]; exact .inl rfl
    · simp only [getA,if_neg e,List.mem_cons,Prod.mk.injEq]
      rw [← h2]
      constructor
      · rintro (z | z)
        · exact absurd z.1.symm e
        · exact z
      · intro z; exact .inr z
theorem getA_none {l:List (κ × α)} {k:κ}:getA l k = none↔k ∉ l.map (·.1):=by
  induction l with
  | nil=>simp [getA]
  | cons p r ih =>
    obtain ⟨k0,v0⟩:=p
    by_cases e:k0 = k
    · subst e; simp [getA]
    · have e':¬ k = k0:=fun z=>e z.symm
      simp only [getA,if_neg e,ih,List.map_cons,List.mem_cons,e',false_or]
end
def bump (row:List (S × Int)) (l:S):List (S × Int):=putA row l ((getA row l).getD 0 + 1)
def addP (rows:List (S × List (S × Int))) (p:S × S):List (S × List (S × Int)):=putA rows p.1 (bump ((getA rows p.1).getD []) p.2)
def rowsOf (ps:List (S × S)):List (S × List (S × Int)):=ps.foldl addP []
theorem rowsOf_snoc (ps:List (S × S)) (p:S × S):rowsOf (ps ++ [p]) = addP (rowsOf ps) p:=by
  unfold rowsOf; rw [List.foldl_append]; rfl
def endOf (t:S) (o:Nat):S:=t.drop (t.length - o)
def pairs1 (o:Nat) (nm:S):List (S × S):=(List.range (nm.length + 1)).map fun p=>(endOf (nm.take p) o,(nm.drop p).take 1)
def pairsB (o:Nat) (bk:List S):List (S × S):=bk.flatMap (pairs1 o)
structure RowsOk (ps:List (S × S)) (rows:List (S × List (S × Int))):Prop where
  nd:(rows.map (·.1)).Nodup
  ndr:∀ e row,(e,row)∈rows→(row.map (·.1)).Nodup
  val:∀ e l,getA ((getA rows e).getD []) l = if 0 < ps.count (e,l) then some (ps.count (e,l):Int) else none
  has:∀ e,(∃ row,getA rows e = some row)↔∃ l,(e,l)∈ps
theorem rows_ok (ps:List (S × S)):RowsOk ps (rowsOf ps):=by
  suffices h:∀ (qs ps:List (S × S)) rows,RowsOk ps rows→RowsOk (ps ++ qs) (qs.foldl addP rows) by
    have:=h ps [] [] ⟨by simp,by simp,by simp [getA],by simp [getA]⟩
    simpa [rowsOf] using this
  intro qs
  induction qs with
  | nil=>intro ps rows h; simpa using h
  | cons q qs ih =>
    intro ps rows h
    obtain ⟨e0,l0⟩:=q
    have step:RowsOk (ps ++ [(e0,l0)]) (addP rows (e0,l0)):=by
      have hrow:((((getA rows e0).getD []).map (·.1))).Nodup:=by
        cases g:getA rows e0 with
        | none=>simp
        | some row=>exact h.ndr e0 row ((getA_mem h.nd e0 row).mpr g)
      refine ⟨putA_nodup h.nd,fun e row hm=>?_,fun e l=>?_,fun e=>?_⟩
      · have hm':=(getA_mem (putA_nodup h.nd) e row).mp hm
        unfold addP at hm'
        rw [getA_putA] at hm'
        split at hm'
        · have:=Option.some.inj hm'
          rw [← this]
          exact putA_nodup hrow
        · exact h.ndr e row ((getA_mem h.nd e row).mpr hm')
      · unfold addP
        rw [getA_putA]
        by_cases he:e0 = e
        · subst he
          rw [if_pos rfl]
          show getA (bump ((getA rows e0).getD []) l0) l = _
          unfold bump
          rw [getA_putA,h.val e0 l0]
          by_cases hl:l0 = l
          · subst hl
            rw [if_pos rfl,List.count_append]
            have e1:List.count (e0,l0) [(e0,l0)] = 1:=by simp
            rw [e1]
            by_cases hc:0 < List.count (e0,l0) ps
            · simp [hc]
            · have:List.count (e0,l0) ps = 0:=by omega
              simp [this]
          · rw [if_neg hl,h.val e0 l,List.count_append]
            have e1:List.count (e0,l) [(e0,l0)] = 0:=by
              simp [List.count_cons,hl]
            rw [e1,Nat.add_zero]
        · rw [if_neg he]
          rw [h.val e l,List.count_append]
          have e1:List.count (e,l) [(e0,l0)] = 0:=by
            simp [List.count_cons,he]
          rw [e1,Nat.add_zero]
      · unfold addP
        rw [getA_putA]
        by_cases he:e0 = e
        · subst he
          rw [if_pos rfl]
          exact ⟨fun _=>⟨l0,by simp⟩,fun _=>⟨_,rfl⟩⟩
        · rw [if_neg he,h.has e]
          constructor
          · rintro ⟨l,hl⟩; exact ⟨l,List.mem_append_left _ hl⟩
          · rintro ⟨l,hl⟩
            rcases List.mem_append.mp hl with z | z
            · exact ⟨l,z⟩
            · have:(e,l) = (e0,l0):=by simpa using z
              exact absurd (congrArg Prod.fst this).symm he
    have:=ih (ps ++ [(e0,l0)]) (addP rows (e0,l0)) step
    simpa using this
def Ris {α:Type} (xs:List (S × α)):Prop:=xs.Pairwise fun a b=>a.1 < b.1
theorem s_irr (a:S):¬ a < a:=List.lt_irrefl a
theorem s_tr {a b c:S} (h1:a < b) (h2:b < c):a < c:=List.lt_trans h1 h2
theorem Ris.ext {α:Type}:∀ {xs ys:List (S × α)},Ris xs→Ris ys→(∀ p,p∈xs↔p∈ys)→xs = ys
  | [],[],_,_,_=>rfl
  | [],y :: ys,_,_,h=>absurd ((h y).mpr (List.mem_cons_self ..)) (by simp)
  | x :: xs,[],_,_,h=>absurd ((h x).mp (List.mem_cons_self ..)) (by simp)
  | x :: xs,y :: ys,hx,hy,h=>by
    have hx1:=(List.pairwise_cons.mp hx).1
    have hy1:=(List.pairwise_cons.mp hy).1
    have exy:x = y:=by
      rcases List.mem_cons.mp ((h x).mp (List.mem_cons_self ..)) with e | e
      · exact e
      · rcases List.mem_cons.mp ((h y).mpr (List.mem_cons_self ..)) with e' | e'
        · exact e'.symm
        · exact absurd (s_tr (hy1 x e) (hx1 y e')) (s_irr _)
    subst exy
    have:xs = ys:=Ris.ext (List.pairwise_cons.mp hx).2 (List.pairwise_cons.mp hy).2 fun p=>by
      constructor
      · intro hp
        rcases List.mem_cons.mp ((h p).mp (List.mem_cons_of_mem _ hp)) with e | e
        · subst e; exact absurd (hx1 p hp) (s_irr _)
        · exact e
      · intro hp
        rcases List.mem_cons.mp ((h p).mpr (List.mem_cons_of_mem _ hp)) with e | e
        · subst e; exact absurd (hy1 p hp) (s_irr _)
        · exact e
    rw [this]
structure IsRow (ps:List (S × S)) (e:S) (xs:List (S × Int)):Prop where
  ris:Ris xs
  mem:∀ l n,(l,n)∈xs↔n = (ps.count (e,l):Int)∧0 < n
theorem IsRow.of {ps:List (S × S)} {rows:List (S × List (S × Int))} (h:RowsOk ps rows) {e:S} {xs:List (S × Int)} (hr:Ris xs) (hp:xs.Perm ((getA rows e).getD [])):IsRow ps e xs:=by
  refine ⟨hr,fun l n=>?_⟩
  have hnd:(((getA rows e).getD []).map (·.1)).Nodup:=by
    cases g:getA rows e with
    | none=>simp
    | some row=>exact h.ndr e row ((getA_mem h.nd e row).mpr g)
  rw [hp.mem_iff,getA_mem hnd,h.val]
  by_cases c:0 < List.count (e,l) ps
  · rw [if_pos c]
    constructor
    · intro z
      have:=Option.some.inj z
      omega
    · rintro ⟨z,_⟩; rw [z]
  · rw [if_neg c]
    constructor
    · intro z; cases z
    · rintro ⟨z1,z2⟩; omega
structure IsTable (ps:List (S × S)) (tb:List (S × List (S × Int))):Prop where
  ris:Ris tb
  has:∀ e,(∃ xs,(e,xs)∈tb)↔∃ l,(e,l)∈ps
  row:∀ e xs,(e,xs)∈tb→IsRow ps e xs
theorem sum_counts {β:Type} [BEq β] [LawfulBEq β]:∀ (ps ks:List β),ks.Nodup→(∀ x∈ps,x∈ks)→(ks.map fun k=>(ps.count k:Int)).sum = (ps.length:Int)
  | [],ks,_,_=>by
    have:(ks.map fun k=>(([]:List β).count k:Int)) = ks.map fun _=>(0:Int):=by simp
    rw [this]
    induction ks with
    | nil=>rfl
    | cons k r ih=>simp_all
  | x :: ps,ks,nd,h=>by
    have ih:=sum_counts ps ks nd fun y hy=>h y (List.mem_cons_of_mem _ hy)
    have no:∀ (ks:List β),x ∉ ks→(ks.map fun k=>((x :: ps).count k:Int)).sum = (ks.map fun k=>(ps.count k:Int)).sum:=by
      intro ks
      induction ks with
      | nil=>intro _; rfl
      | cons k r ih =>
        intro hx
        have hx1:¬ x = k:=fun e=>hx (e ▸ List.mem_cons_self ..)
        have hx2:x ∉ r:=fun e=>hx (List.mem_cons_of_mem _ e)
        simp only [List.map_cons,List.sum_cons,ih hx2,List.count_cons_of_ne hx1]
    have one:∀ (ks:List β),ks.Nodup→x∈ks→(ks.map fun k=>((x :: ps).count k:Int)).sum = (ks.map fun k=>(ps.count k:Int)).sum + 1:=by
      intro ks
      induction ks with
      | nil=>intro _ hx; cases hx
      | cons k r ih =>
        intro nd hx
        have hk:=(List.nodup_cons.mp nd).1
        by_cases e:x = k
        · subst e
          simp only [List.map_cons,List.sum_cons,no r hk,List.count_cons_self]
          omega
        · have hx':x∈r:=(List.mem_cons.mp hx).elim (fun z=>absurd z e) id
          simp only [List.map_cons,List.sum_cons,ih (List.nodup_cons.mp nd).2 hx',List.count_cons_of_ne e]
          omega
    rw [one ks nd (h x (List.mem_cons_self ..)),ih,List.length_cons]
    omega
theorem pairsB_append (o:Nat) (a b:List S):pairsB o (a ++ b) = pairsB o a ++ pairsB o b:=by
  unfold pairsB; rw [List.flatMap_append]
theorem pairsB_length (o:Nat) (a:List S):((pairsB o a).length:Int) = (a.map fun x=>(x.length:Int) + 1).sum:=by
  induction a with
  | nil=>rfl
  | cons x r ih =>
    have e1:pairsB o (x :: r) = pairs1 o x ++ pairsB o r:=rfl
    rw [e1,List.length_append,List.map_cons,List.sum_cons,← ih]
    simp [pairs1]
theorem endOf_length (t:S) (o:Nat):(endOf t o).length≤o:=by unfold endOf; rw [List.length_drop]; omega
end Kn
end
section
set_option autoImplicit false
namespace Kn
def gcdI (a b:Int):Int:=(Int.gcd a b:Int)
def low (u d:Int):Int × Int:=(u / gcdI u d,d / gcdI u d)
structure Fq (q:Int × Int):Prop where
  up:0≤q.1
  dn:0 < q.2
  co:Int.gcd q.1 q.2 = 1
theorem gcdI_pos {u d:Int} (hd:0 < d):0 < gcdI u d:=by
  have:0 < Int.gcd u d:=Int.gcd_pos_iff.mpr (.inr (by omega))
  unfold gcdI; omega
theorem gcdI_u (u d:Int):u = gcdI u d * (u / gcdI u d):=(Int.mul_ediv_cancel' (by unfold gcdI; exact Int.gcd_dvd_left ..)).symm
theorem gcdI_d (u d:Int):d = gcdI u d * (d / gcdI u d):=(Int.mul_ediv_cancel' (by unfold gcdI; exact Int.gcd_dvd_right ..)).symm
theorem low_cross {u d:Int} (hd:0 < d):(low u d).1 * d = u * (low u d).2:=by
  have h1:=gcdI_u u d
  have h2:=gcdI_d u d
  show u / gcdI u d * d = u * (d / gcdI u d)
  generalize gcdI u d = g at *
  generalize u / g = a at *
  generalize d / g = b at *
  rw [h1,h2,← Int.mul_assoc,Int.mul_comm a g]
theorem low_fq {u d:Int} (hu:0≤u) (hd:0 < d):Fq (low u d):=by
  have hg:=gcdI_pos (u:=u) hd
  refine ⟨Int.ediv_nonneg hu (Int.le_of_lt hg),?_,?_⟩
  · have h2:=gcdI_d u d
    show 0 < d / gcdI u d
    rcases Int.lt_trichotomy (d / gcdI u d) 0 with h | h | h
    · have:=Int.mul_neg_of_pos_of_neg hg h
      omega
    · rw [h,Int.mul_zero] at h2; omega
    · exact h
  · show Int.gcd (u / gcdI u d) (d / gcdI u d) = 1
    unfold gcdI at *
    have hg':0 < Int.gcd u d:=by omega
    rw [Int.gcd_ediv (Int.gcd_dvd_left ..) (Int.gcd_dvd_right ..)]
    simp
    exact Nat.div_self hg'
theorem Fq.ext {p q:Int × Int} (a:Fq p) (b:Fq q) (h:p.1 * q.2 = q.1 * p.2):p = q:=by
  obtain ⟨p1,p2⟩:=p
  obtain ⟨q1,q2⟩:=q
  obtain ⟨a1,a2,a3⟩:=a
  obtain ⟨b1,b2,b3⟩:=b
  dsimp only at *
  obtain ⟨x,rfl⟩:=Int.eq_ofNat_of_zero_le a1
  obtain ⟨y,rfl⟩:=Int.eq_ofNat_of_zero_le (Int.le_of_lt a2)
  obtain ⟨z,rfl⟩:=Int.eq_ofNat_of_zero_le b1
  obtain ⟨w,rfl⟩:=Int.eq_ofNat_of_zero_le (Int.le_of_lt b2)
  have h':x * w = z * y:=by exact_mod_cast h
  have a3':Nat.gcd x y = 1:=by simpa [Int.gcd] using a3
  have b3':Nat.gcd z w = 1:=by simpa [Int.gcd] using b3
  have hy:0 < y:=by omega
  have hw:0 < w:=by omega
  have d1:y ∣ w:=Nat.Coprime.dvd_of_dvd_mul_left (m:=x) (by rw [Nat.Coprime,Nat.gcd_comm]; exact a3') (by rw [h']; exact Nat.dvd_mul_left ..)
  have d2:w ∣ y:=Nat.Coprime.dvd_of_dvd_mul_left (m:=z) (by rw [Nat.Coprime,Nat.gcd_comm]; exact b3') (by rw [← h']; exact Nat.dvd_mul_left ..)
  have e:y = w:=Nat.dvd_antisymm d1 d2
  subst e
  have:x = z:=Nat.eq_of_mul_eq_mul_right hy h'
  rw [this]
theorem low_le {u d:Int} (hu:0≤u) (hd:0 < d):(low u d).2≤d∧(low u d).1≤u:=by
  have hg:=gcdI_pos (u:=u) hd
  exact ⟨Int.ediv_le_self _ (by omega),Int.ediv_le_self _ hu⟩
def tms (p q:Int × Int):Int × Int:=low (p.1 * q.1) (p.2 * q.2)
def lss (p q:Int × Int):Bool:=decide (p.1 * q.2 < q.1 * p.2)
theorem tms_fq {p q:Int × Int} (a:Fq p) (b:Fq q):Fq (tms p q):=low_fq (Int.mul_nonneg a.up b.up) (Int.mul_pos a.dn b.dn)
theorem fq01:Fq (0,1):=⟨by decide,by decide,by decide⟩
theorem fq11:Fq (1,1):=⟨by decide,by decide,by decide⟩
theorem low_zero {d:Int} (hd:0 < d):low 0 d = (0,1):=by
  refine Fq.ext (low_fq (Int.le_refl _) hd) fq01 ?_
  have:=low_cross (u:=0) hd
  rw [Int.zero_mul] at this
  have h0:(low 0 d).1 = 0:=by
    rcases Int.mul_eq_zero.mp this with h | h
    · exact h
    · omega
  rw [h0]; simp
theorem tms_zero_left {q:Int × Int} (b:Fq q):tms (0,1) q = (0,1):=by
  unfold tms
  have:((0:Int),(1:Int)).1 * q.1 = 0:=Int.zero_mul _
  rw [this]
  exact low_zero (Int.mul_pos (by decide) b.dn)
theorem tms_zero_right {p:Int × Int} (a:Fq p):tms p (0,1) = (0,1):=by
  unfold tms
  have:p.1 * ((0:Int),(1:Int)).1 = 0:=Int.mul_zero _
  rw [this]
  exact low_zero (Int.mul_pos a.dn (by decide))
theorem tms_pos {p q:Int × Int} (a:Fq p) (b:Fq q) (hp:0 < p.1) (hq:0 < q.1):0 < (tms p q).1:=by
  have f:=tms_fq a b
  have c:(tms p q).1 * (p.2 * q.2) = (p.1 * q.1) * (tms p q).2:=low_cross (Int.mul_pos a.dn b.dn)
  rcases Int.lt_or_eq_of_le f.up with h | h
  · exact h
  · rw [← h,Int.zero_mul] at c
    have h1:0 < p.1 * q.1:=Int.mul_pos hp hq
    have h2:0 < (p.1 * q.1) * (tms p q).2:=Int.mul_pos h1 f.dn
    omega
theorem low_pos {u d:Int} (hu:0 < u) (hd:0 < d):0 < (low u d).1:=by
  have f:=low_fq (Int.le_of_lt hu) hd
  have c:=low_cross (u:=u) hd
  rcases Int.lt_or_eq_of_le f.up with h | h
  · exact h
  · rw [← h,Int.zero_mul] at c
    have:=Int.mul_pos hu f.dn
    omega
theorem low_le1 {u d:Int} (hu:0≤u) (hd:0 < d) (h:u≤d):(low u d).1≤(low u d).2:=by
  have f:=low_fq hu hd
  have c:=low_cross (u:=u) hd
  by_cases hh:(low u d).1≤(low u d).2
  · exact hh
  · exfalso
    have h1:(low u d).2 + 1≤(low u d).1:=by omega
    have h2:((low u d).2 + 1) * d≤(low u d).1 * d:=Int.mul_le_mul_of_nonneg_right h1 (Int.le_of_lt hd)
    have h3:u * (low u d).2≤d * (low u d).2:=Int.mul_le_mul_of_nonneg_right h (Int.le_of_lt f.dn)
    rw [Int.add_mul,Int.one_mul,Int.mul_comm (low u d).2 d] at h2
    omega
theorem tms_le1 {p q:Int × Int} (a:Fq p) (b:Fq q) (hp:p.1≤p.2) (hq:q.1≤q.2):(tms p q).1≤(tms p q).2 :=
  low_le1 (Int.mul_nonneg a.up b.up) (Int.mul_pos a.dn b.dn) (Int.mul_le_mul hp hq b.up (Int.le_of_lt a.dn))
end Kn
end
section
set_option autoImplicit false
set_option linter.all false
namespace Kn
def tot (ps:List (S × S)) (e:S):Nat:=(ps.filter fun p=>p.1 = e).length
def part (ps:List (S × S)) (e l:S):Int × Int:=if ps.count (e,l) = 0 then (0,1) else low (ps.count (e,l):Int) (tot ps e:Int)
def shareG (ps:List (S × S)) (qs:List (S × S)):Int × Int:=qs.foldl (fun w p=>tms w (part ps p.1 p.2)) (1,1)
def shareOf (ps:List (S × S)) (o:Nat) (nm:S):Int × Int:=shareG ps (pairs1 o nm)
theorem count_le_tot (ps:List (S × S)) (e l:S):ps.count (e,l)≤tot ps e:=by
  unfold tot
  rw [← List.count_filter (l:=ps) (p:=fun p=>decide (p.1 = e)) (a:=(e,l)) (by simp)]
  exact List.count_le_length
theorem part_fq (ps:List (S × S)) (e l:S):Fq (part ps e l):=by
  unfold part
  split
  · exact fq01
  · have:=count_le_tot ps e l
    exact low_fq (by omega) (by omega)
theorem part_le1 (ps:List (S × S)) (e l:S):(part ps e l).1≤(part ps e l).2:=by
  unfold part
  split
  · decide
  · have:=count_le_tot ps e l
    exact low_le1 (by omega) (by omega) (by omega)
theorem part_pos {ps:List (S × S)} {e l:S} (h:(e,l)∈ps):0 < (part ps e l).1:=by
  have hc:=List.count_pos_iff.mpr h
  have:=count_le_tot ps e l
  unfold part
  rw [if_neg (by omega)]
  exact low_pos (by omega) (by omega)
theorem part_none {ps:List (S × S)} {e l:S} (h:(e,l) ∉ ps):part ps e l = (0,1):=by
  unfold part
  rw [if_pos (List.count_eq_zero.mpr h)]
theorem part_dn {ps:List (S × S)} (e l:S) (h:1≤ps.length):(part ps e l).2≤(ps.length:Int):=by
  unfold part
  split
  · show (1:Int)≤_; omega
  · have h1:=count_le_tot ps e l
    have h2:tot ps e≤ps.length:=List.length_filter_le _ _
    have:=(low_le (u:=(ps.count (e,l):Int)) (d:=(tot ps e:Int)) (by omega) (by omega)).1
    omega
theorem foldG_fq (ps:List (S × S)):∀ (qs:List (S × S)) (w:Int × Int),Fq w→Fq (qs.foldl (fun w p=>tms w (part ps p.1 p.2)) w)
  | [],w,h=>h
  | q :: qs,w,h=>foldG_fq ps qs _ (tms_fq h (part_fq ps q.1 q.2))
theorem foldG_le1 (ps:List (S × S)):∀ (qs:List (S × S)) (w:Int × Int),Fq w→w.1≤w.2→(qs.foldl (fun w p=>tms w (part ps p.1 p.2)) w).1≤(qs.foldl (fun w p=>tms w (part ps p.1 p.2)) w).2
  | [],w,_,h=>h
  | q :: qs,w,f,h=>foldG_le1 ps qs _ (tms_fq f (part_fq ps q.1 q.2)) (tms_le1 f (part_fq ps q.1 q.2) h (part_le1 ps q.1 q.2))
theorem foldG_pos (ps:List (S × S)):∀ (qs:List (S × S)) (w:Int × Int),Fq w→0 < w.1→(∀ q∈qs,q∈ps)→0 < (qs.foldl (fun w p=>tms w (part ps p.1 p.2)) w).1
  | [],w,_,h,_=>h
  | q :: qs,w,f,h,hq=>foldG_pos ps qs _ (tms_fq f (part_fq ps q.1 q.2)) (tms_pos f (part_fq ps q.1 q.2) h (part_pos (hq q (List.mem_cons_self ..)))) fun r hr=>hq r (List.mem_cons_of_mem _ hr)
theorem foldG_zero (ps:List (S × S)):∀ (qs:List (S × S)),qs.foldl (fun w p=>tms w (part ps p.1 p.2)) (0,1) = (0,1)
  | []=>rfl
  | q :: qs=>by
    rw [List.foldl_cons,tms_zero_left (part_fq ps q.1 q.2)]
    exact foldG_zero ps qs
theorem foldG_dn {ps:List (S × S)} (h1:1≤ps.length):∀ (qs:List (S × S)) (w:Int × Int) (k:Nat),Fq w→w.2≤(ps.length:Int) ^ k→(qs.foldl (fun w p=>tms w (part ps p.1 p.2)) w).2≤(ps.length:Int) ^ (k + qs.length)
  | [],w,k,_,h=>h
  | q :: qs,w,k,f,h=>by
    have g:=part_fq ps q.1 q.2
    have e:k + (q :: qs).length = (k + 1) + qs.length:=by simp; omega
    rw [e,List.foldl_cons]
    refine foldG_dn h1 qs _ (k + 1) (tms_fq f g) ?_
    have a1:(tms w (part ps q.1 q.2)).2≤w.2 * (part ps q.1 q.2).2:=(low_le (Int.mul_nonneg f.up g.up) (Int.mul_pos f.dn g.dn)).1
    have a2:w.2 * (part ps q.1 q.2).2≤(ps.length:Int) ^ k * (ps.length:Int):=Int.mul_le_mul h (part_dn q.1 q.2 h1) (Int.le_of_lt g.dn) (by have:=f.dn; omega)
    rw [Int.pow_succ]
    omega
theorem share_fq (ps:List (S × S)) (o:Nat) (nm:S):Fq (shareOf ps o nm):=foldG_fq ps _ _ fq11
theorem share_le1 (ps:List (S × S)) (o:Nat) (nm:S):(shareOf ps o nm).1≤(shareOf ps o nm).2:=foldG_le1 ps _ _ fq11 (by decide)
theorem pairs1_head (o:Nat) (nm:S):∃ r,pairs1 o nm = (([]:S),nm.take 1) :: r:=by
  unfold pairs1
  rw [List.range_succ_eq_map,List.map_cons]
  have e:(endOf (List.take 0 nm) o,List.take 1 (List.drop 0 nm)) = (([]:S),nm.take 1):=by simp [endOf]
  rw [e]
  exact ⟨_,rfl⟩
def min2 (a b:S):S:=if b < a then b else a
theorem s_tri (a b:S) (h1:¬ a < b) (h2:¬ b < a):a = b:=List.le_antisymm (List.not_lt.mp h2) (List.not_lt.mp h1)
theorem min2_or (a b:S):min2 a b = a∨min2 a b = b:=by
  unfold min2; split
  · exact .inr rfl
  · exact .inl rfl
theorem lss_zero {p:Int × Int}:lss (0,1) p = decide (0 < p.1):=by
  simp only [lss]
  congr 1
  simp
end Kn
end
section
set_option Elab.async false
set_option linter.all false
set_option maxRecDepth 100000
set_option maxHeartbeats 1000000
namespace Kn
open PySem L2
def Cal (P:Program) (w:World) (K:PySem.W.Frag) (mg:Str→Option Value) (base:Heap) (k:Nat) (x:Str) (ps:List Str) (sp:Sp):Prop :=
  ∃ (f:Addr) (fd:FuncData),FnOk P w K mg base CX0 k f fd ps sp∧mg x = some (.ref f)∧PySem.W.keepIn K (.ref f) = true∧Binds K fd ps []
theorem pe_cal {X:Cx} {k:Nat} {x:Str} {ps:List Str} {sp:Sp} {p pos:Pos} {e:Expr} {es:List Expr} {t:TA} (C:Cal X.prog X.w X.K X.mg X.base k x ps sp) (hr:Room k X.A) (hg:Gl X x) (ha:PA X (e :: es) t)
    (hs:starEach (e :: es) X.env = (false,eval e X.env) :: starEach es X.env:=by rfl) (hplain:(backTo pos (starEach es X.env)).any (·.1) = false:=by rfl)
    (hdb:(x == ("__debug__" : Str)) = false:=by decide):PE X (.Call (.Name x p) (e :: es) [] pos) (tCall sp [] E0 t):=by
  obtain ⟨f,fd,G,hm,kp,b⟩:=C
  exact pe_call G hr hg hm kp b .nil pass0 ha hdb hs hplain
abbrev tx (x:S):Str:=⟨x.toArray⟩
abbrev sv (x:S):V:=.str (tx x)
theorem tx_cps (x:S):(tx x).cps.toList = x:=by simp [tx]
theorem tx_len (x:S):(tx x).length = x.length:=by simp [tx,Str.length]
theorem range_item {n i:Nat} {x:V} (h:((List.range n).map fun (i:Nat)=>V.int (0 + (i:Int)))[i]? = some x):i < n∧x = .int i:=by
  have hi:i < n:=by
    have:=(List.getElem?_eq_some_iff.mp h).1
    simpa using this
  refine ⟨hi,?_⟩
  rw [List.getElem?_map,List.getElem?_range hi] at h
  have:=Option.some.inj h
  rw [← this]
  show V.int (0 + (i:Int)) = V.int i
  rw [Int.zero_add]
theorem ys1 {ys:St} (h:ys.length = 1):∃ y,ys = [y]:=by
  match ys,h with
  | [y],_=>exact ⟨y,rfl⟩
theorem ys2 {ys:St} (h:ys.length = 2):∃ y z,ys = [y,z]:=by
  match ys,h with
  | [y,z],_=>exact ⟨y,z,rfl⟩
structure Blt (mg:Str→Option Value):Prop where
  len:mg "len" = none
  range:mg "range" = none
  all:mg "all" = none
  isinstance:mg "isinstance" = none
  str:mg "str" = none
  tuple:mg "tuple" = none
  int:mg "int" = none
  bool:mg "bool" = none
  sorted:mg "sorted" = none
  sum:mg "sum" = none
  min:mg "min" = none
section
variable {P:Program} {w:World} {K:PySem.W.Frag} {mg:Str→Option Value} {base:Heap}
theorem cut_end (t:S) (o:Nat) (ho:1≤o):cutS (tx t) (some (-(o:Int))) none = tx (endOf t o):=by
  unfold cutS
  rw [tx_len,tx_cps]
  have e1:HT.sIx t.length 0 (some (-(o:Int))) = t.length - o:=by
    show (if -(o:Int) < 0 then (-(o:Int) + (t.length:Int)).toNat else _) = _
    rw [if_pos (by omega)]; omega
  have e2:HT.sIx t.length t.length none = t.length:=rfl
  rw [e1,e2]
  unfold endOf
  rw [List.take_of_length_le (by rw [List.length_drop]; omega)]
theorem cut_to (t:S) (p:Nat):cutS (tx t) none (some (p:Int)) = tx (t.take p):=by
  unfold cutS
  rw [tx_len,tx_cps,HT.sIx_nat]
  show tx ((t.drop 0).take (min p t.length - 0)) = _
  rw [List.drop_zero,Nat.sub_zero,← List.take_eq_take_min]
theorem cut_one (t:S) (p:Nat):cutS (tx t) (some (p:Int)) (some ((p:Int) + 1)) = tx ((t.drop p).take 1):=by
  unfold cutS
  rw [tx_len,tx_cps,HT.sIx_nat,show ((p:Int) + 1) = ((p + 1:Nat):Int) from rfl,HT.sIx_nat]
  congr 1
  by_cases h:p < t.length
  · have e1:min p t.length = p:=by omega
    have e2:min (p + 1) t.length - p = 1:=by omega
    rw [e1,e2]
  · have e1:min p t.length = t.length:=by omega
    rw [e1,List.drop_of_length_le (Nat.le_refl _),List.drop_of_length_le (by omega)]
    simp
def spEnd:Sp:=fun vs H Q _=>∃ (t:S) (o:Nat),vs = [sv t,.int o]∧1≤o∧t.length≤64∧Q (sv (endOf t o)) H
abbrev sEnd:Stmt:=top 19
theorem scEnd:FnScope ["text", "order"] ["text", "order"] (defScope sEnd):=⟨rfl,rfl,rfl,by decide +kernel,rfl,by decide +kernel,by decide +kernel⟩
theorem ok_end {f:Addr} {fd:FuncData} (F:Fun K "end_of" "end_of" sEnd f fd):FnOk P w K mg base CX0 1 f fd ["text", "order"] spEnd:=by
  refine F.ok scEnd (fun vs H Q E h=>?_) (fun cdv A outer s H vs Q E hr h=>?_)
  · obtain ⟨t,o,rfl,_⟩:=h; rfl
  · obtain ⟨t,o,rfl,ho,hl,k⟩:=h
    refine ⟨_,pss_one (ps_ret (pe_sliceS (pv 0) (po_some (pe_un un_neg (pv 1))) po_none)),?_⟩
    refine ⟨_,rfl,_,rfl,_,rfl,_,rfl,_,rfl,?_,?_⟩
    · rw [tx_len,sizeLine_eq]; omega
    · rw [cut_end t o ho]; exact k
def pr (o:Nat) (t:S) (p:Nat):S × S:=(endOf (t.take p) o,(t.drop p).take 1)
def elD (p:S × S):PyData:=.tuple [.str (tx p.1),.str (tx p.2)]
def spEnds (K:PySem.W.Frag):Sp:=fun vs H Q _=>∃ (t:S) (o:Nat),vs = [sv t,.int o]∧1≤o∧t.length≤64∧∀ a xs H',Same H H'→H a = none→H' a = some (.lst xs)→Reps K H' ((pairs1 o t).map elD) xs→Q (.ref a) H'
abbrev sEnds:Stmt:=top 20
theorem scEnds:FnScope ["name", "order"] ["name", "order"] (defScope sEnds):=⟨rfl,rfl,rfl,by decide +kernel,rfl,by decide +kernel,by decide +kernel⟩
theorem ndEnds:(["name", "order", "place"]:List Str).Nodup:=by decide +kernel
theorem ok_ends {f:Addr} {fd:FuncData} (F:Fun K "ends_and_letters" "ends_and_letters" sEnds f fd) (B:Blt mg) (cEnd:Cal P w K mg base 1 "end_of" ["text", "order"] spEnd):FnOk P w K mg base CX0 2 f fd ["name", "order"] (spEnds K):=by
  refine F.ok scEnds (fun vs H Q E h=>?_) (fun cdv A outer s H vs Q E hr h=>?_)
  · obtain ⟨t,o,rfl,_⟩:=h; rfl
  · obtain ⟨t,o,rfl,ho,hl,k⟩:=h
    refine ⟨_,pss_one (ps_ret (pe_comp (N:=["name", "order", "place"]) (caps:=[0,1]) rfl (compScope_of (by kernel_rfl))
      (pi_range1 rfl B.range (pa_cons (pe_op op_add (pe_callB call_len_str (by rfl) B.len PySem.boot_len (pa_cons (pv 0) pa_nil)) pe_int) pa_nil))
      (fun cl C s H ex=>pg_name (i:=2) ndEnds rfl (Or.inl rfl))
      (fun cl C s H ex=>pf_nil)
      (fun cl C s H ex=>pe_tup (pa_cons (pe_cal cEnd hr rfl (pa_cons (pe_sliceS (pv 0) po_none (po_some (pv 2))) (pa_cons (pv 1) pa_nil)))
        (pa_cons (pe_sliceS (pv 0) (po_some (pv 2)) (po_some (pe_op op_add (pv 2) pe_int))) pa_nil))))),?_⟩
    refine ⟨_,rfl,_,rfl,?_,_,_,rfl,rfl,_,rfl,?_,?_,?_⟩
    · rw [tx_len,sizeLine_eq]; omega
    · rw [tx_len]; omega
    · rw [tx_len]; omega
    have hn:((tx t).length:Int) + 1 = ((t.length + 1:Nat):Int):=by rw [tx_len]; rfl
    have hnn:(((tx t).length:Int) + 1).toNat = t.length + 1:=by rw [hn]; rfl
    refine comp_known0 (known_range 0 _) [some (sv t),some (.int o)] 1 (by rw [List.length_map,List.length_range,hnn]; omega) (fun i acc H'=>Same H H'∧acc.length = i∧Reps K H' (((List.range i).map (pr o t)).map elD) acc)
      ⟨Same.refl H,rfl,rfl⟩ (fun i acc H' _ h=>⟨trivial,Nat.le_of_eq h.2.1⟩) ?_ ?_
    · rintro i x acc H' ys Nx hN hx hy ⟨sm,hal,rp⟩
      obtain ⟨y,rfl⟩:=ys1 hy
      rw [hnn] at hx
      obtain ⟨hi,rfl⟩:=range_item hx
      refine ⟨_,rfl,_,rfl,_,rfl,_,rfl,(by rw [tx_len,sizeLine_eq]; omega),_,rfl,t.take i,o,(by rw [cut_to]; rfl),ho,(by rw [List.length_take]; omega),?_⟩
      refine ⟨_,rfl,_,rfl,_,rfl,_,rfl,_,_,rfl,rfl,_,rfl,_,rfl,(by rw [tx_len,sizeLine_eq]; omega),?_⟩
      refine ⟨by show 2≤sizeLine; decide,fun p hp=>hN _ _ [some (.int i)] rfl ⟨sm.upd_new (sm.free hp),by rw [List.length_append,hal]; rfl,?_⟩⟩
      rw [List.range_succ,List.map_append,List.map_append]
      refine Reps.append (Reps.same (Same.upd1 hp) _ _ rp) (Reps.one ⟨p,_,rfl,.of upd_same,?_⟩)
      rw [cut_one]
      exact ⟨_,_,rfl,rfl,_,_,rfl,rfl,rfl⟩
    · rintro acc H' ⟨sm,hal,rp⟩ D hD
      refine k D acc _ (sm.upd_new (sm.free hD)) (sm.free hD) upd_same (Reps.same (Same.upd1 hD) _ _ ?_)
      rw [List.length_map,List.length_range,hnn] at rp
      exact rp
def isNm (x:S):Prop:=1≤x.length∧x.length≤8∧∀ c∈x,97≤c∧c≤122
def letters:Str:=⟨#[97,98,99,100,101,102,103,104,105,106,107,108,109,110,111,112,113,114,115,116,117,118,119,120,121,122]⟩
theorem in_letters {c:Nat} (h:97≤c∧c≤122):(Builtin.Str.occurrences letters ⟨#[c]⟩ 0 letters.length 1).isEmpty = false:=by
  have all:∀ d:_root_.Fin 26,(Builtin.Str.occurrences letters ⟨#[97 + d.val]⟩ 0 letters.length 1).isEmpty = false:=by decide +kernel
  have:=all ⟨c - 97,by omega⟩
  have e:97 + (c - 97) = c:=by omega
  simpa [e] using this
structure Cst (K:PySem.W.Frag) (mg:Str→Option Value):Prop where
  letters:∃ t,mg "LETTERS" = some (.str letters t)
  ml:∃ t,mg "MOST_LETTERS" = some (.int 8 t)
  mn:∃ t,mg "MOST_NAMES" = some (.int 8 t)
  mo:∃ t,mg "MOST_ORDER" = some (.int 3 t)
  ib:PySem.W.kitOne K (.type "int") (.type "bool") = some false
def spIsName:Sp:=fun vs H Q _=>∃ x:S,vs = [sv x]∧isNm x∧∀ H',Same H H'→Q (.bl true) H'
abbrev sIsName:Stmt:=top 11
theorem scIsName:FnScope ["thing"] ["thing"] (defScope sIsName):=⟨rfl,rfl,rfl,by decide +kernel,rfl,by decide +kernel,by decide +kernel⟩
theorem nd1:(["letter"]:List Str).Nodup:=by decide +kernel
theorem ok_isname {f:Addr} {fd:FuncData} (F:Fun K "is_name" "is_name" sIsName f fd) (B:Blt mg) (C:Cst K mg):FnOk P w K mg base CX0 1 f fd ["thing"] spIsName:=by
  obtain ⟨tl,hl⟩:=C.letters
  obtain ⟨t8,h8⟩:=C.ml
  refine F.ok scIsName (fun vs H Q E h=>?_) (fun cdv A outer s H vs Q E hr h=>?_)
  · obtain ⟨t,rfl,_⟩:=h; rfl
  · obtain ⟨x,rfl,⟨n1,n2,n3⟩,k⟩:=h
    refine ⟨_,pss_cons (ps_if (PW.pt (pw_or (pt_not (pt_val (pe_callB call_isinst (by rfl) B.isinstance PyProof.Rows.boot_isinstance (pa_cons (pv 0) (pa_cons (pe_bltn (v:=.ty "str") (by rfl) B.str PyProof.Rows.boot_str rfl) pa_nil)))))
        (pw_or1 (pt_not (pt_chain op_le op_le pe_int (pe_callB call_len_str (by rfl) B.len PySem.boot_len (pa_cons (pv 0) pa_nil)) (pe_glob (v:=.int 8) (by rfl) h8 ⟨_,rfl⟩))))))
        (pss_one (ps_ret pe_bl)) pss_nil)
      (pss_one (ps_ret (pe_callB (call_all rfl) (by rfl) B.all PyProof.Rows.boot_all (pa_cons (pe_comp (N:=["letter"]) (caps:=[]) rfl (compScope_of (by kernel_rfl)) (pi_str (pv 0))
        (fun cl C s H ex=>pg_name (i:=0) nd1 rfl (Or.inl rfl)) (fun cl C s H ex=>pf_nil)
        (fun cl C s H ex=>pe_cmpR op_in_str (pv 0) (pe_glob (v:=.str letters) (by rfl) hl ⟨_,rfl⟩) (by with_unfolding_all rfl))) pa_nil)))),?_⟩
    refine ⟨_,rfl,_,_,_,true,rfl,.str _,(by rfl),_,rfl,?_⟩
    refine iteF ?_
    refine ⟨_,rfl,_,rfl,(by rw [tx_len,sizeLine_eq]; omega),_,_,rfl,rfl,_,rfl,?_⟩
    refine iteD (by rw [tx_len]; omega) ⟨_,_,rfl,rfl,_,rfl,iteNS (by rw [tx_len]; omega) ?_⟩
    refine ⟨_,rfl,_,rfl,?_⟩
    refine comp_known0 (known_str (tx x)) [] 1 (by rw [List.length_map,tx_cps]; omega) (fun i acc H'=>Same H H'∧acc = List.replicate i (.bl true)) ⟨Same.refl H,rfl⟩ (fun i acc H' _ h=>⟨trivial,by rw [h.2]; simp⟩) ?_ ?_
    · rintro i y acc H' ys Nx hN hx hy ⟨sm,rfl⟩
      obtain ⟨y',rfl⟩:=ys1 hy
      rw [List.getElem?_map,tx_cps] at hx
      cases e:x[i]? with
      | none=>rw [e] at hx; cases hx
      | some c =>
        rw [e] at hx
        have hy2:y = .str ⟨#[c]⟩:=(Option.some.inj hx).symm
        subst hy2
        refine ⟨_,rfl,_,_,rfl,rfl,?_⟩
        rw [in_letters (n3 c (List.mem_of_getElem? e))]
        exact hN _ _ [some (.str ⟨#[c]⟩)] rfl ⟨sm,by rw [List.replicate_succ']; rfl⟩
    · rintro acc H' ⟨sm,rfl⟩ D hD
      refine ⟨D,List.replicate _ true,rfl,.of (by rw [upd_same,List.map_replicate]),?_⟩
      have:(List.replicate ((tx x).cps.toList.map fun c=>V.str ⟨#[c]⟩).length true).all id = true:=by simp
      rw [this]
      exact k _ (sm.upd_new (sm.free hD))
def bkV (bk:List S):List V:=bk.map sv
structure isBk (bk:List S):Prop where
  lo:1≤bk.length
  hi:bk.length≤8
  nm:∀ x∈bk,isNm x
def spIsBook:Sp:=fun vs H Q _=>∃ (a:Addr) (bk:List S),vs = [.ref a]∧H a = some (.tup (bkV bk))∧isBk bk∧∀ H',Same H H'→Q (.bl true) H'
abbrev sIsBook:Stmt:=top 12
theorem scIsBook:FnScope ["thing"] ["thing"] (defScope sIsBook):=⟨rfl,rfl,rfl,by decide +kernel,rfl,by decide +kernel,by decide +kernel⟩
theorem nd2:(["name"]:List Str).Nodup:=by decide +kernel
theorem ok_isbook {f:Addr} {fd:FuncData} (F:Fun K "is_book" "is_book" sIsBook f fd) (B:Blt mg) (C:Cst K mg) (cName:Cal P w K mg base 1 "is_name" ["thing"] spIsName):FnOk P w K mg base CX0 2 f fd ["thing"] spIsBook:=by
  obtain ⟨t8,h8⟩:=C.mn
  refine F.ok scIsBook (fun vs H Q E h=>?_) (fun cdv A outer s H vs Q E hr h=>?_)
  · obtain ⟨a,bk,rfl,_⟩:=h; rfl
  · obtain ⟨a,bk,rfl,ha,⟨n1,n2,n3⟩,k⟩:=h
    refine ⟨_,pss_cons (ps_if (PW.pt (pw_or (pt_not (pt_val (pe_callB call_isinst (by rfl) B.isinstance PyProof.Rows.boot_isinstance (pa_cons (pv 0) (pa_cons (pe_bltn (v:=.ty "tuple") (by rfl) B.tuple PyProof.Rows.boot_tuple rfl) pa_nil)))))
        (pw_or1 (pt_not (pt_chain op_le op_le pe_int (pe_callB call_len_seq (by rfl) B.len PySem.boot_len (pa_cons (pv 0) pa_nil)) (pe_glob (v:=.int 8) (by rfl) h8 ⟨_,rfl⟩))))))
        (pss_one (ps_ret pe_bl)) pss_nil)
      (pss_one (ps_ret (pe_callB (call_all rfl) (by rfl) B.all PyProof.Rows.boot_all (pa_cons (pe_comp (N:=["name"]) (caps:=[]) rfl (compScope_of (by kernel_rfl)) (pi_tup (pv 0))
        (fun cl C s H ex=>pg_name (i:=0) nd2 rfl (Or.inl rfl)) (fun cl C s H ex=>pf_nil)
        (fun cl C s H ex=>pe_cal cName hr rfl (pa_cons (pv 0) pa_nil))) pa_nil)))),?_⟩
    refine ⟨_,rfl,_,_,_,true,rfl,.tup ha,(by rfl),_,rfl,?_⟩
    refine iteF ?_
    refine ⟨_,rfl,_,_,rfl,.inr (.of ha),_,_,rfl,rfl,_,rfl,?_⟩
    have hl:(bkV bk).length = bk.length:=by simp [bkV]
    refine iteD (by rw [hl]; omega) ⟨_,_,rfl,rfl,_,rfl,iteNS (by rw [hl]; omega) ?_⟩
    refine ⟨_,rfl,_,rfl,⟨_,.of ha⟩,?_⟩
    refine comp_known0 (known_tup _ a (bkV bk)) [] 1 (by rw [hl]; omega) (fun i acc H'=>Same H H'∧acc = List.replicate i (.bl true)) ⟨Same.refl H,rfl⟩ (fun i acc H' _ h=>⟨.of (h.1 _ _ ha),by rw [h.2]; simp⟩) ?_ ?_
    · rintro i y acc H' ys Nx hN hx hy ⟨sm,rfl⟩
      obtain ⟨y',rfl⟩:=ys1 hy
      rw [bkV,List.getElem?_map] at hx
      cases e:bk[i]? with
      | none=>rw [e] at hx; cases hx
      | some c =>
        rw [e] at hx
        have hy2:y = sv c:=(Option.some.inj hx).symm
        subst hy2
        exact ⟨_,rfl,c,rfl,n3 c (List.mem_of_getElem? e),fun H5 sm5=>hN _ _ [some (sv c)] rfl ⟨sm.trans sm5,by rw [List.replicate_succ']⟩⟩
    · rintro acc H' ⟨sm,rfl⟩ D hD
      refine ⟨D,List.replicate _ true,rfl,.of (by rw [upd_same,List.map_replicate]),?_⟩
      have:(List.replicate (bkV bk).length true).all id = true:=by simp
      rw [this]
      exact k _ (sm.upd_new (sm.free hD))
def spIsWhole:Sp:=fun vs H Q _=>∃ o a b:Nat,vs = [.int o,.int a,.int b]∧a≤o∧o≤b∧Q (.bl true) H
abbrev sIsWhole:Stmt:=top 13
theorem scIsWhole:FnScope ["thing", "least", "most"] ["thing", "least", "most"] (defScope sIsWhole):=⟨rfl,rfl,rfl,by decide +kernel,rfl,by decide +kernel,by decide +kernel⟩
theorem ok_iswhole {f:Addr} {fd:FuncData} (F:Fun K "is_whole" "is_whole" sIsWhole f fd) (B:Blt mg) (C:Cst K mg):FnOk P w K mg base CX0 1 f fd ["thing", "least", "most"] spIsWhole:=by
  refine F.ok scIsWhole (fun vs H Q E h=>?_) (fun cdv A outer s H vs Q E hr h=>?_)
  · obtain ⟨o,a,b,rfl,_⟩:=h; rfl
  · obtain ⟨o,a,b,rfl,n1,n2,k⟩:=h
    refine ⟨_,pss_cons (ps_if (PW.pt (pw_or (pt_not (pt_val (pe_callB call_isinst (by rfl) B.isinstance PyProof.Rows.boot_isinstance (pa_cons (pv 0) (pa_cons (pe_bltn (v:=.ty "int") (by rfl) B.int PyProof.Rows.boot_int rfl) pa_nil)))))
        (pw_or1 (pt_val (pe_callB call_isinst (by rfl) B.isinstance PyProof.Rows.boot_isinstance (pa_cons (pv 0) (pa_cons (pe_bltn (v:=.ty "bool") (by rfl) B.bool PyProof.Rows.boot_bool rfl) pa_nil)))))))
        (pss_one (ps_ret pe_bl)) pss_nil)
      (pss_one (ps_ret (pe_chain op_le op_le (pv 1) (pv 0) (pv 2)))),?_⟩
    refine ⟨_,rfl,_,_,_,true,rfl,.int _,(by rfl),_,rfl,?_⟩
    refine iteF ?_
    refine ⟨_,rfl,_,_,_,false,rfl,.int _,C.ib,_,rfl,?_⟩
    refine iteF ?_
    refine ⟨_,rfl,_,rfl,_,_,rfl,rfl,_,rfl,?_⟩
    refine iteD (by omega) ⟨_,rfl,_,_,rfl,rfl,?_⟩
    have e:decide ((o:Int)≤b) = true:=decide_eq_true (by omega)
    show Q (.bl (decide ((o:Int)≤b))) H
    rw [e]
    exact k
def spIsOrder:Sp:=fun vs H Q _=>∃ o:Nat,vs = [.int o]∧1≤o∧o≤3∧Q (.bl true) H
abbrev sIsOrder:Stmt:=top 14
theorem scIsOrder:FnScope ["thing"] ["thing"] (defScope sIsOrder):=⟨rfl,rfl,rfl,by decide +kernel,rfl,by decide +kernel,by decide +kernel⟩
theorem ok_isorder {f:Addr} {fd:FuncData} (F:Fun K "is_order" "is_order" sIsOrder f fd) (C:Cst K mg) (cW:Cal P w K mg base 1 "is_whole" ["thing", "least", "most"] spIsWhole):FnOk P w K mg base CX0 2 f fd ["thing"] spIsOrder:=by
  obtain ⟨t3,h3⟩:=C.mo
  refine F.ok scIsOrder (fun vs H Q E h=>?_) (fun cdv A outer s H vs Q E hr h=>?_)
  · obtain ⟨o,rfl,_⟩:=h; rfl
  · obtain ⟨o,rfl,n1,n2,k⟩:=h
    refine ⟨_,pss_one (ps_ret (pe_cal cW hr rfl (pa_cons (pv 0) (pa_cons pe_int (pa_cons (pe_glob (v:=.int 3) (by rfl) h3 ⟨_,rfl⟩) pa_nil))))),?_⟩
    exact ⟨_,rfl,o,1,3,rfl,n1,n2,k⟩
def spNeedBook:Sp:=fun vs H Q _=>∃ (a:Addr) (bk:List S),vs = [.ref a]∧H a = some (.tup (bkV bk))∧isBk bk∧∀ H',Same H H'→Q .non H'
abbrev sNeedBook:Stmt:=top 15
theorem scNeedBook:FnScope ["thing"] ["thing"] (defScope sNeedBook):=⟨rfl,rfl,rfl,by decide +kernel,rfl,by decide +kernel,by decide +kernel⟩
theorem ok_needbook {f:Addr} {fd:FuncData} (F:Fun K "need_book" "need_book" sNeedBook f fd) (c1:Cal P w K mg base 2 "is_book" ["thing"] spIsBook):FnOk P w K mg base CX0 3 f fd ["thing"] spNeedBook:=by
  refine F.ok scNeedBook (fun vs H Q E h=>?_) (fun cdv A outer s H vs Q E hr h=>?_)
  · obtain ⟨a,bk,rfl,_⟩:=h; rfl
  · obtain ⟨a,bk,rfl,ha,hb,k⟩:=h
    refine ⟨_,pss_one (ps_if (pt_not (pt_val (pe_cal c1 hr rfl (pa_cons (pv 0) pa_nil)))) (pss_one ps_never) pss_nil),?_⟩
    exact ⟨_,rfl,a,bk,rfl,ha,hb,fun H' sm=>⟨true,rfl,iteF (k H' sm)⟩⟩
def spNeedOrder:Sp:=fun vs H Q _=>∃ o:Nat,vs = [.int o]∧1≤o∧o≤3∧Q .non H
abbrev sNeedOrder:Stmt:=top 16
theorem scNeedOrder:FnScope ["thing"] ["thing"] (defScope sNeedOrder):=⟨rfl,rfl,rfl,by decide +kernel,rfl,by decide +kernel,by decide +kernel⟩
theorem ok_needorder {f:Addr} {fd:FuncData} (F:Fun K "need_order" "need_order" sNeedOrder f fd) (c1:Cal P w K mg base 2 "is_order" ["thing"] spIsOrder):FnOk P w K mg base CX0 3 f fd ["thing"] spNeedOrder:=by
  refine F.ok scNeedOrder (fun vs H Q E h=>?_) (fun cdv A outer s H vs Q E hr h=>?_)
  · obtain ⟨o,rfl,_⟩:=h; rfl
  · obtain ⟨o,rfl,n1,n2,k⟩:=h
    refine ⟨_,pss_one (ps_if (pt_not (pt_val (pe_cal c1 hr rfl (pa_cons (pv 0) pa_nil)))) (pss_one ps_never) pss_nil),?_⟩
    exact ⟨_,rfl,o,rfl,n1,n2,true,rfl,iteF k⟩
def spNeedName:Sp:=fun vs H Q _=>∃ x:S,vs = [sv x]∧isNm x∧∀ H',Same H H'→Q .non H'
abbrev sNeedName:Stmt:=top 18
theorem scNeedName:FnScope ["thing"] ["thing"] (defScope sNeedName):=⟨rfl,rfl,rfl,by decide +kernel,rfl,by decide +kernel,by decide +kernel⟩
theorem ok_needname {f:Addr} {fd:FuncData} (F:Fun K "need_name" "need_name" sNeedName f fd) (c1:Cal P w K mg base 1 "is_name" ["thing"] spIsName):FnOk P w K mg base CX0 2 f fd ["thing"] spNeedName:=by
  refine F.ok scNeedName (fun vs H Q E h=>?_) (fun cdv A outer s H vs Q E hr h=>?_)
  · obtain ⟨x,rfl,_⟩:=h; rfl
  · obtain ⟨x,rfl,hx,k⟩:=h
    refine ⟨_,pss_one (ps_if (pt_not (pt_val (pe_cal c1 hr rfl (pa_cons (pv 0) pa_nil)))) (pss_one ps_never) pss_nil),?_⟩
    exact ⟨_,rfl,x,rfl,hx,fun H' sm=>⟨true,rfl,iteF (k H' sm)⟩⟩
end
end Kn
end
section
set_option Elab.async false
set_option linter.all false
set_option maxRecDepth 100000
set_option maxHeartbeats 1000000
namespace Kn
open PySem L2
theorem tx_inj {a b:S} (h:tx a = tx b):a = b:=by
  have:=congrArg (fun z:Str=>z.cps.toList) h
  simpa [tx] using this
section
variable {α:Type}
def encD (f:α→V) (l:List (S × α)):List (Key × V):=encK (l.map fun p=>(tx p.1,f p.2))
theorem encD_cons (f:α→V) (p:S × α) (l:List (S × α)):encD f (p :: l) = ((Sum.inr (tx p.1):Key),f p.2) :: encD f l:=rfl
theorem encD_len (f:α→V) (l:List (S × α)):(encD f l).length = l.length:=by simp [encD,encK]
theorem key_eq {a b:S}:((Sum.inr (tx a):Key) = Sum.inr (tx b))↔a = b:=⟨fun h=>tx_inj (Sum.inr.inj h),fun h=>by rw [h]⟩
theorem val_enc (f:α→V) (l:List (S × α)) (k:S):valV (encD f l) (Sum.inr (tx k)) = (getA l k).map f:=by
  induction l with
  | nil=>rfl
  | cons p r ih =>
    rw [encD_cons]
    by_cases e:p.1 = k
    · rw [valV_pos (key_eq.mpr e)]
      obtain ⟨a,b⟩:=p
      have e':a = k:=e
      subst e'
      simp [getA]
    · rw [valV_neg (fun z=>e (key_eq.mp z)),ih]
      obtain ⟨a,b⟩:=p
      have e':¬ a = k:=e
      simp [getA,e']
theorem any_enc (f:α→V) (l:List (S × α)) (k:S):((encD f l).any fun kv=>decide (kv.1 = (Sum.inr (tx k):Key))) = decide (k∈l.map (·.1)):=by
  induction l with
  | nil=>rfl
  | cons p r ih =>
    rw [encD_cons,List.any_cons,ih]
    by_cases e:p.1 = k
    · have:decide ((Sum.inr (tx p.1):Key) = Sum.inr (tx k)) = true:=decide_eq_true (key_eq.mpr e)
      rw [this,Bool.true_or]
      exact (decide_eq_true (by rw [← e]; exact List.mem_cons_self ..)).symm
    · have:decide ((Sum.inr (tx p.1):Key) = Sum.inr (tx k)) = false:=decide_eq_false (fun z=>e (key_eq.mp z))
      rw [this,Bool.false_or]
      congr 1
      have e':¬ k = p.1:=fun z=>e z.symm
      simp [e']
theorem put_enc (f:α→V) (l:List (S × α)) (k:S) (v:α) (nd:(l.map (·.1)).Nodup):putK (encD f l) (Sum.inr (tx k)) (f v) = encD f (putA l k v):=by
  unfold putK
  rw [any_enc]
  by_cases hk:k∈l.map (·.1)
  · rw [if_pos (decide_eq_true hk)]
    induction l with
    | nil=>cases hk
    | cons p r ih =>
      obtain ⟨a,b⟩:=p
      have nd':=List.nodup_cons.mp nd
      rw [encD_cons,List.map_cons]
      by_cases e:a = k
      · subst e
        have e1:putA ((a,b) :: r) a v = (a,v) :: r:=by simp [putA]
        rw [e1,encD_cons]
        congr 1
        · simp
        · have:∀ q∈encD f r,(if q.1 = (Sum.inr (tx a):Key) then (q.1,f v) else q) = q:=fun q hq=>by
            rw [if_neg]
            intro z
            obtain ⟨s,hs,e2⟩:=List.mem_map.mp hq
            obtain ⟨s',hs',e3⟩:=List.mem_map.mp hs
            have:s.1 = tx s'.1:=by rw [← e3]
            have h4:q.1 = (Sum.inr (tx s'.1):Key):=by rw [← e2,this]
            rw [h4] at z
            exact nd'.1 (List.mem_map.mpr ⟨s',hs',key_eq.mp z⟩)
          have h5:=List.map_congr_left this
          rw [h5]; simp
      · have e1:putA ((a,b) :: r) k v = (a,b) :: putA r k v:=by simp [putA,e]
        rw [e1,encD_cons]
        congr 1
        · rw [if_neg (fun z=>e (key_eq.mp z))]
        · exact ih nd'.2 (by
            rcases List.mem_cons.mp hk with z | z
            · exact absurd z.symm e
            · exact z)
  · rw [if_neg (by simpa using hk)]
    clear nd
    induction l with
    | nil=>rfl
    | cons p r ih =>
      obtain ⟨a,b⟩:=p
      have e:¬ a = k:=fun z=>hk (by rw [← z]; exact List.mem_cons_self ..)
      have e1:putA ((a,b) :: r) k v = (a,b) :: putA r k v:=by simp [putA,e]
      rw [e1,encD_cons,encD_cons,List.cons_append,ih fun z=>hk (List.mem_cons_of_mem _ z)]
theorem putA_len {β:Type} (l:List (S × β)) (k:S) (v:β):(putA l k v).length≤l.length + 1:=by
  induction l with
  | nil=>simp [putA]
  | cons p r ih =>
    obtain ⟨a,b⟩:=p
    by_cases e:a = k
    · simp [putA,e]
    · simp [putA,e]; omega
theorem putA_map {β γ:Type} (g:β→γ) (l:List (S × β)) (k:S) (v:β):(putA l k v).map (fun p=>(p.1,g p.2)) = putA (l.map fun p=>(p.1,g p.2)) k (g v):=by
  induction l with
  | nil=>rfl
  | cons p r ih =>
    obtain ⟨a,b⟩:=p
    by_cases e:a = k
    · simp [putA,e]
    · simp [putA,e,ih]
theorem getA_map {β γ:Type} (g:β→γ) (l:List (S × β)) (k:S):getA (l.map fun p=>(p.1,g p.2)) k = (getA l k).map g:=by
  induction l with
  | nil=>rfl
  | cons p r ih =>
    obtain ⟨a,b⟩:=p
    by_cases e:a = k
    · simp [getA,e]
    · simp [getA,e,ih]
theorem putA_mem {β:Type} {l:List (S × β)} {k:S} {v:β} {q:S × β} (h:q∈putA l k v):q = (k,v)∨(q∈l∧(q.1≠k∨(l.map (·.1)).Nodup→q.1≠k)):=by
  induction l with
  | nil=>simp [putA] at h; exact .inl h
  | cons p r ih =>
    obtain ⟨a,b⟩:=p
    by_cases e:a = k
    · subst e
      have e1:putA ((a,b) :: r) a v = (a,v) :: r:=by simp [putA]
      rw [e1] at h
      rcases List.mem_cons.mp h with z | z
      · exact .inl z
      · refine .inr ⟨List.mem_cons_of_mem _ z,?_⟩
        rintro (w | w)
        · exact w
        · intro e2
          exact (List.nodup_cons.mp w).1 (by rw [← e2]; exact List.mem_map_of_mem (f:=(·.1)) z)
    · have e1:putA ((a,b) :: r) k v = (a,b) :: putA r k v:=by simp [putA,e]
      rw [e1] at h
      rcases List.mem_cons.mp h with z | z
      · subst z
        exact .inr ⟨List.mem_cons_self ..,fun _=>e⟩
      · rcases ih z with w | ⟨w1,w2⟩
        · exact .inl w
        · refine .inr ⟨List.mem_cons_of_mem _ w1,?_⟩
          rintro (u | u)
          · exact u
          · exact w2 (.inr (List.nodup_cons.mp u).2)
theorem putA_new {β:Type} (l:List (S × β)) (k:S) (v:β) (h:k ∉ l.map (·.1)):putA l k v = l ++ [(k,v)]:=by
  induction l with
  | nil=>rfl
  | cons q r ih =>
    obtain ⟨a,b⟩:=q
    have e:¬ a = k:=fun z=>h (by rw [← z]; exact List.mem_cons_self ..)
    have e1:putA ((a,b) :: r) k v = (a,b) :: putA r k v:=by simp [putA,e]
    rw [e1,ih fun z=>h (List.mem_cons_of_mem _ z)]; rfl
theorem putA_same {β γ:Type} (g:β→γ) (l:List (S × β)) (k:S) (v u:β) (h:getA l k = some u) (e:g v = g u):(putA l k v).map (fun p=>(p.1,g p.2)) = l.map fun p=>(p.1,g p.2):=by
  induction l with
  | nil=>cases h
  | cons p r ih =>
    obtain ⟨a,b⟩:=p
    by_cases ea:a = k
    · have:b = u:=by simpa [getA,ea] using h
      subst this
      simp [putA,ea,e]
    · have h':getA r k = some u:=by simpa [getA,ea] using h
      simp [putA,ea,ih h']
theorem rows_len (ps:List (S × S)):(rowsOf ps).length≤ps.length∧∀ r∈rowsOf ps,r.2.length≤ps.length:=by
  have key:∀ (qs:List (S × S)) (rows:List (S × List (S × Int))) (n:Nat),(rows.length≤n∧∀ r∈rows,r.2.length≤n)→(qs.foldl addP rows).length≤n + qs.length∧∀ r∈qs.foldl addP rows,r.2.length≤n + qs.length:=by
    intro qs
    induction qs with
    | nil=>intro rows n h; simpa using h
    | cons q qs ih =>
      intro rows n h
      have:=ih (addP rows q) (n + 1) ⟨?_,fun r hr=>?_⟩
      · rw [List.foldl_cons,List.length_cons]
        have e:n + (qs.length + 1) = n + 1 + qs.length:=by omega
        rw [e]; exact this
      · have:=putA_len rows q.1 (bump ((getA rows q.1).getD []) q.2)
        unfold addP; omega
      · rcases putA_mem hr with e | ⟨e,_⟩
        · rw [e]
          have h1:=putA_len ((getA rows q.1).getD []) q.2 ((getA ((getA rows q.1).getD []) q.2).getD 0 + 1)
          have h2:((getA rows q.1).getD []).length≤n:=by
            cases g:getA rows q.1 with
            | none=>simp
            | some row =>
              have hm:(q.1,row)∈rows:=by
                clear h hr e h1
                induction rows with
                | nil=>cases g
                | cons p r ih2 =>
                  obtain ⟨a,b⟩:=p
                  by_cases ea:a = q.1
                  · have:b = row:=by simpa [getA,ea] using g
                    subst this; subst ea
                    exact List.mem_cons_self ..
                  · exact List.mem_cons_of_mem _ (ih2 (by simpa [getA,ea] using g))
              exact h.2 _ hm
          show (bump _ _).length≤_
          unfold bump; omega
        · have:=h.2 r e; omega
  have:=key ps [] 0 ⟨Nat.le_refl _,by simp⟩
  simpa [rowsOf] using this
end
abbrev rowV (row:List (S × Int)):List (Key × V):=encD V.int row
structure RA (H0 H:Hp) (d:Addr) (ps:List (S × S)) (ra:List (S × Addr × List (S × Int))):Prop where
  rows:ra.map (fun r=>(r.1,r.2.2)) = rowsOf ps
  top:H d = some (.dK (encD (fun v:Addr × List (S × Int)=>V.ref v.1) ra))
  row:∀ r∈ra,H r.2.1 = some (.dK (rowV r.2.2))
  new:∀ r∈ra,H0 r.2.1 = none∧r.2.1≠d
  nda:(ra.map fun r=>r.2.1).Nodup
def RowsAt (H:Hp) (d:Addr) (ps:List (S × S)):Prop:=∃ ra:List (S × Addr × List (S × Int)),ra.map (fun r=>(r.1,r.2.2)) = rowsOf ps∧H d = some (.dK (encD (fun v:Addr × List (S × Int)=>V.ref v.1) ra))∧∀ r∈ra,H r.2.1 = some (.dK (rowV r.2.2))
theorem RowsAt.same {H H':Hp} {d:Addr} {ps:List (S × S)} (h:RowsAt H d ps) (e:Same H H'):RowsAt H' d ps:=by
  obtain ⟨ra,h1,h2,h3⟩:=h
  exact ⟨ra,h1,e _ _ h2,fun r hr=>e _ _ (h3 r hr)⟩
section
variable {P:Program} {w:World} {K:PySem.W.Frag} {mg:Str→Option Value} {base:Heap}
def spRows:Sp:=fun vs H Q _=>∃ (a:Addr) (bk:List S) (o:Nat),vs = [.ref a,.int o]∧H a = some (.tup (bkV bk))∧bk.length≤8∧(∀ x∈bk,x.length≤8)∧1≤o∧∀ d H',Same H H'→H d = none→RowsAt H' d (pairsB o bk)→Q (.ref d) H'
abbrev sRows:Stmt:=top 21
theorem scRows:FnScope ["book", "order", "rows", "name", "end", "letter", "row"] ["book", "order"] (defScope sRows):=⟨rfl,rfl,rfl,by decide +kernel,rfl,by decide +kernel,by decide +kernel⟩
theorem keys_nd {H0 H:Hp} {d:Addr} {ps:List (S × S)} {ra:List (S × Addr × List (S × Int))} (R:RA H0 H d ps ra):(ra.map (·.1)).Nodup:=by
  have h:=(rows_ok ps).nd
  rw [← R.rows,List.map_map] at h
  exact h
theorem RA.step {H0 H H2:Hp} {d ad:Addr} {ps:List (S × S)} {ra:List (S × Addr × List (S × Int))} (R:RA H0 H d ps ra) (p:S × S) (row:List (S × Int)) (hrow:row = ((getA ra p.1).map (·.2)).getD [])
    (had:∀ v,getA ra p.1 = some v→v.1 = ad) (hnew:getA ra p.1 = none→H0 ad = none∧ad≠d∧ad ∉ ra.map fun r=>r.2.1)
    (h1:H2 ad = some (.dK (rowV (bump row p.2)))) (h2:H2 d = some (.dK (encD (fun v:Addr × List (S × Int)=>V.ref v.1) (putA ra p.1 (ad,bump row p.2))))) (h3:∀ r∈ra,r.2.1≠ad→H2 r.2.1 = some (.dK (rowV r.2.2))) :
    RA H0 H2 d (ps ++ [p]) (putA ra p.1 (ad,bump row p.2)):=by
  have nd:=keys_nd R
  have isin:∀ v,getA ra p.1 = some v→(p.1,v)∈ra:=fun v hv=>(getA_mem nd p.1 v).mpr hv
  have adr:∀ r∈ra,r.1≠p.1→r.2.1≠ad:=fun r hr hne e=>by
    cases g:getA ra p.1 with
    | none=>exact (hnew g).2.2 (List.mem_map.mpr ⟨r,hr,e⟩)
    | some v =>
      have hv:=isin v g
      have ev:=had v g
      have:r = (p.1,v):=by
        obtain ⟨i,hi,ei⟩:=List.getElem_of_mem hr
        obtain ⟨j,hj,ej⟩:=List.getElem_of_mem hv
        have hij:i = j:=by
          refine (List.getElem_inj (xs:=ra.map fun r=>r.2.1) (h₀:=by simpa using hi) (h₁:=by simpa using hj) R.nda).mp ?_
          rw [List.getElem_map,List.getElem_map,ei,ej]
          show r.2.1 = v.1
          rw [e,ev]
        subst hij
        rw [← ei,← ej]
      exact hne (by rw [this])
  refine ⟨?_,h2,fun r hr=>?_,fun r hr=>?_,?_⟩
  · rw [rowsOf_snoc,← R.rows]
    unfold addP
    have e:=putA_map (fun v:Addr × List (S × Int)=>v.2) ra p.1 (ad,bump row p.2)
    rw [e]
    have e2:=getA_map (fun v:Addr × List (S × Int)=>v.2) ra p.1
    rw [e2,← hrow]
  · rcases putA_mem hr with e | ⟨e,e'⟩
    · rw [e]; exact h1
    · exact h3 r e (adr r e (e' (.inr nd)))
  · rcases putA_mem hr with e | ⟨e,_⟩
    · rw [e]
      cases g:getA ra p.1 with
      | none=>exact ⟨(hnew g).1,(hnew g).2.1⟩
      | some v =>
        have:=R.new _ (isin v g)
        rw [← had v g]; exact this
    · exact R.new r e
  · cases g:getA ra p.1 with
    | none =>
      have hk:p.1 ∉ ra.map (·.1):=getA_none.mp g
      have e:=putA_new ra p.1 (ad,bump row p.2) hk
      rw [e,List.map_append]
      refine List.nodup_append.mpr ⟨R.nda,by simp,fun a ha b hb e2=>?_⟩
      have:b = ad:=by simpa using hb
      exact (hnew g).2.2 (by rw [← this,← e2]; exact ha)
    | some v =>
      have e:=putA_same (fun v:Addr × List (S × Int)=>v.1) ra p.1 (ad,bump row p.2) v g (had v g).symm
      have e2:(putA ra p.1 (ad,bump row p.2)).map (fun r=>r.2.1) = ra.map fun r=>r.2.1:=by
        have:=congrArg (List.map Prod.snd) e
        rw [List.map_map,List.map_map] at this
        exact this
      rw [e2]; exact R.nda
def SameQ (H H':Hp):Prop:=∀ b o,H b = some o→(∀ kvs,o≠.dK kvs)→H' b = some o
theorem SameQ.upd {H:Hp} {a:Addr} {kvs:List (Key × V)} {u:HO} (h:H a = some (.dK kvs)):SameQ H (upd H a u):=fun b o e hn=>by
  rw [upd_ne]
  · exact e
  · rintro rfl; rw [h] at e; exact hn kvs (Option.some.inj e).symm
theorem SameQ.sqL {H H':Hp} (e:SameQ H H') {a:Addr} {xs:List V} (h:SqL K H a xs):SqL K H' a xs:=by
  rcases h with (h | ⟨o,h⟩) | h
  · exact .inl (.inl (e _ _ h (by intro z w; cases w)))
  · exact .inl (.inr ⟨o,e _ _ h (by intro z w; cases w)⟩)
  · exact .inr h
theorem SameQ.sqT {H H':Hp} (e:SameQ H H') {a:Addr} {xs:List V} (h:SqT K H a xs):SqT K H' a xs:=by
  rcases h with (h | ⟨o,h⟩) | h
  · exact .inl (.inl (e _ _ h (by intro z w; cases w)))
  · exact .inl (.inr ⟨o,e _ _ h (by intro z w; cases w)⟩)
  · exact .inr h
mutual
theorem Rep.sameQ {H H':Hp} (e:SameQ H H'):∀ (d:PyData) (v:V),Rep K H d v→Rep K H' d v
  | .none,v,h=>h
  | .bool b,v,h=>h
  | .int i,v,h=>h
  | .str x,v,h=>h
  | .list ds,v,h=>by
    obtain ⟨a,xs,h1,h2,h3⟩:=h
    exact ⟨a,xs,h1,e.sqL h2,Reps.sameQ e ds xs h3⟩
  | .tuple ds,v,h=>by
    obtain ⟨a,xs,h1,h2,h3⟩:=h
    exact ⟨a,xs,h1,e.sqT h2,Reps.sameQ e ds xs h3⟩
  | .dict _,v,h=>h
theorem Reps.sameQ {H H':Hp} (e:SameQ H H'):∀ (ds:List PyData) (xs:List V),Reps K H ds xs→Reps K H' ds xs
  | [],xs,h=>h
  | d :: ds,xs,h=>by
    obtain ⟨y,ys,h1,h2,h3⟩:=h
    exact ⟨y,ys,h1,Rep.sameQ e d y h2,Reps.sameQ e ds ys h3⟩
end
theorem encD_same {β:Type} (g:β→V) (l:List (S × β)) (k:S) (v u:β) (h:getA l k = some u) (e:g v = g u):encD g (putA l k v) = encD g l:=by
  have:=putA_same g l k v u h e
  unfold encD
  have e2:∀ m:List (S × β),m.map (fun p=>(tx p.1,g p.2)) = (m.map fun p=>(p.1,g p.2)).map fun q=>(tx q.1,q.2):=fun m=>by rw [List.map_map]; rfl
  rw [e2,e2,this]
theorem row_of {H0 H:Hp} {d:Addr} {ps:List (S × S)} {ra:List (S × Addr × List (S × Int))} (R:RA H0 H d ps ra) {e:S} {v:Addr × List (S × Int)} (h:getA ra e = some v) :
    H v.1 = some (.dK (rowV v.2))∧(v.2.map (·.1)).Nodup∧v.2.length≤ps.length∧H0 v.1 = none∧v.1≠d:=by
  have hm:=(getA_mem (keys_nd R) e v).mpr h
  have hm2:(e,v.2)∈rowsOf ps:=by rw [← R.rows]; exact List.mem_map.mpr ⟨(e,v),hm,rfl⟩
  exact ⟨R.row _ hm,(rows_ok ps).ndr e v.2 hm2,(rows_len ps).2 _ hm2,(R.new _ hm).1,(R.new _ hm).2⟩
theorem ok_rows {f:Addr} {fd:FuncData} (F:Fun K "counted_rows" "counted_rows" sRows f fd) (cEnds:Cal P w K mg base 2 "ends_and_letters" ["name", "order"] (spEnds K)):FnOk P w K mg base CX0 3 f fd ["book", "order"] spRows:=by
  refine F.ok scRows (fun vs H Q E h=>?_) (fun cdv A outer s H vs Q E hr h=>?_)
  · obtain ⟨a,bk,o,rfl,_⟩:=h; rfl
  · obtain ⟨a,bk,o,rfl,ha,hb1,hb2,ho,k⟩:=h
    have hu:=hu_of hr
    have nd:=scRows.nd
    refine ⟨_,pss_cons (ps_set (i:=2) nd rfl (Or.inl rfl) pe_dnewK)
      (pss_cons (ps_for PassesOwn.never rfl (pi_tup (pv 0)) (pg_name (i:=3) nd rfl (Or.inl rfl))
        (pss_one (ps_for PassesOwn.never rfl (pi_list (pe_cal cEnds hr rfl (pa_cons (pv 3) (pa_cons (pv 1) pa_nil))))
          (pg_tup rfl (pgs_cons (pg_name (i:=4) nd rfl (Or.inl rfl)) (pgs_cons (pg_name (i:=5) nd rfl (Or.inl rfl)) pgs_nil)))
          (pss_cons (ps_set (i:=6) nd rfl (Or.inl rfl) (pe_bm PySem.F.plainAttrs_dict PySem.F.slot_dict_setdefault PySem.F.type_dict_setdefault mt_setdefault (pv 2) (pa_cons (pv 4) (pa_cons pe_dnewK pa_nil))))
            (pss_one (ps_dput hu (pv 6) (pv 5) (pe_op op_add (pe_dget2 hu (pv 6) (pv 5) pe_int ⟨rfl,rfl,rfl,rfl⟩) pe_int) rfl))))))
      (pss_one (ps_ret (pv 2)))),?_⟩
    intro d hd
    have s1:Same H (upd H d (.dK [])):=Same.upd1 hd
    refine ⟨_,rfl,a,rfl,⟨_,.of (s1 _ _ ha)⟩,?_⟩
    refine for_known (known_tup K a (bkV bk)) (fun i σ H'=>(∃ x y z u:Option V,σ = [some (.ref a),some (.int o),some (.ref d),x,y,z,u])∧Same H H'∧∃ ra,RA H H' d (pairsB o (bk.take i)) ra)
      ⟨⟨_,_,_,_,rfl⟩,s1,[],⟨rfl,upd_same,by simp,by simp,by simp⟩⟩ (fun i σ H' _ h=>.of (h.2.1 _ _ ha)) ?_ ?_
    · rintro i x σ H' Nx hN hx ⟨⟨x1,x2,x3,x4,rfl⟩,sm,ra,R⟩
      rw [bkV,List.getElem?_map] at hx
      cases e:bk[i]? with
      | none=>rw [e] at hx; cases hx
      | some nm =>
      rw [e] at hx
      have hy2:x = sv nm:=(Option.some.inj hx).symm
      subst hy2
      have hnm:=hb2 nm (List.mem_of_getElem? e)
      have hi:i < bk.length:=(List.getElem?_eq_some_iff.mp e).1
      have etake:bk.take (i + 1) = bk.take i ++ [nm]:=by
        rw [List.take_succ_eq_append_getElem hi]
        have:=(List.getElem?_eq_some_iff.mp e).2
        rw [this]
      have epairs:pairsB o (bk.take (i + 1)) = pairsB o (bk.take i) ++ pairs1 o nm:=by
        rw [etake,pairsB_append]; simp [pairsB]
      have hplen:((pairsB o (bk.take (i + 1))).length:Int)≤100:=by
        rw [pairsB_length]
        have go:∀ l:List S,(∀ x∈l,x.length≤8)→(l.map fun x=>(x.length:Int) + 1).sum≤9 * (l.length:Int):=by
          intro l
          induction l with
          | nil=>intro _; simp
          | cons x r ih =>
            intro hl
            have h1:=hl x (List.mem_cons_self ..)
            have h2:=ih fun y hy=>hl y (List.mem_cons_of_mem _ hy)
            rw [List.map_cons,List.sum_cons,List.length_cons]
            have:((r.length + 1:Nat):Int) = (r.length:Int) + 1:=rfl
            omega
        have:=go (bk.take (i + 1)) fun x hx=>hb2 x (List.mem_of_mem_take hx)
        have h3:(bk.take (i + 1)).length≤8:=by rw [List.length_take]; omega
        omega
      refine ⟨_,rfl,_,rfl,nm,o,rfl,ho,by omega,fun l xs Hl sml hln hll rp=>?_⟩
      refine ⟨l,rfl,⟨_,.of hll⟩,?_⟩
      have R1:RA H Hl d (pairsB o (bk.take i)) ra:=⟨R.rows,sml _ _ R.top,fun r hr=>sml _ _ (R.row r hr),R.new,R.nda⟩
      have hld:H l = none:=sm.free hln
      have hdl:l≠d:=ne_of hll (sml _ _ R.top) (by intro z; cases z)
      refine for_known (known_list K l xs) (fun j σ H2=>(∃ y z u:Option V,σ = [some (.ref a),some (.int o),some (.ref d),some (sv nm),y,z,u])∧Same H H2∧H2 l = some (.lst xs)∧Reps K H2 ((pairs1 o nm).map elD) xs∧∃ ra,RA H H2 d (pairsB o (bk.take i) ++ (pairs1 o nm).take j) ra∧∀ r∈ra,r.2.1≠l)
        ⟨⟨_,_,_,rfl⟩,sm.trans sml,hll,rp,ra,by simpa using R1,fun r hr=>ne_of (R1.row r hr) hll (by intro z; cases z)⟩ (fun j σ H2 _ h=>.of h.2.2.1) ?_ ?_
      · rintro j x σ H2 Nx2 hN2 hx2 ⟨⟨y,z,u,rfl⟩,sm2,hl2,rp2,ra2,R2,hal⟩
        obtain ⟨dd,hdd,rx⟩:=rp2.get hx2
        rw [List.getElem?_map] at hdd
        cases ep:(pairs1 o nm)[j]? with
        | none=>rw [ep] at hdd; cases hdd
        | some p =>
        rw [ep] at hdd
        have hd2:dd = elD p:=(Option.some.inj hdd).symm
        subst hd2
        obtain ⟨at',xs',rfl,hsq,y1,ys1',rfl,ry1,y2,ys2',rfl,ry2,hnil⟩:=rx
        have ey1:y1 = sv p.1:=ry1
        have ey2:y2 = sv p.2:=ry2
        have en:ys2' = []:=hnil
        subst ey1 ey2 en
        have hj:j < (pairs1 o nm).length:=(List.getElem?_eq_some_iff.mp ep).1
        have etk:pairsB o (bk.take i) ++ (pairs1 o nm).take (j + 1) = (pairsB o (bk.take i) ++ (pairs1 o nm).take j) ++ [p]:=by
          rw [List.take_succ_eq_append_getElem hj,(List.getElem?_eq_some_iff.mp ep).2,List.append_assoc]
        generalize hps:pairsB o (bk.take i) ++ (pairs1 o nm).take j = ps at R2 etk
        have hpl:ps.length≤100:=by
          have h1:ps.length≤(pairsB o (bk.take (i + 1))).length:=by
            rw [← hps,epairs,List.length_append,List.length_append,List.length_take]; omega
          omega
        have hral:ra2.length≤100:=by
          have h1:=(rows_len ps).1
          rw [← R2.rows,List.length_map] at h1
          omega
        refine ⟨at',[sv p.1,sv p.2],rfl,hsq,rfl,_,_,rfl,_,_,rfl,rfl,?_⟩
        refine ⟨_,rfl,.inr (.inr (.inl ⟨rfl,.inl ⟨_,R2.top⟩⟩)),_,rfl,fun e0 he0=>?_⟩
        have he0H:H e0 = none:=sm2.free he0
        have hde:d≠e0:=ne_of_none R2.top he0
        have s3:Same H2 (upd H2 e0 (.dK [])):=Same.upd1 he0
        have fin:∀ (ad:Addr) (row:List (S × Int)) (Hx:Hp),Hx ad = some (.dK (rowV row))→(row.map (·.1)).Nodup→row.length≤100→(∀ H4,H4 = upd Hx ad (.dK (rowV (bump row p.2)))→Nx2 [some (.ref a),some (.int o),some (.ref d),some (sv nm),some (sv p.1),some (sv p.2),some (.ref ad)] H4) →
            sDPut (tVar 6) (tVar 5) (tOp (rI0 fun i j=>V.int (i + j)) (tDGet2 (tVar 6) (tVar 5) (tC (.int 0))) (tC (.int 1))) { nx:=Nx2,rt:=Q,bk:=fun _ _=>False,ct:=fun _ _=>False } [some (.ref a),some (.int o),some (.ref d),some (sv nm),some (sv p.1),some (sv p.2),some (.ref ad)] Hx:=by
          intro ad row Hx hrow hnd hrl hq
          refine ⟨_,rfl,ad,rfl,.inl ⟨_,.inl hrow⟩,_,rfl,_,DGet.k (k:=Sum.inr (tx p.2)) hrow,(getA row p.2).getD 0,1,?_,rfl,?_⟩
          · rw [val_enc]
            cases getA row p.2 <;> rfl
          · refine ⟨_,rfl,_,rfl,ad,_,rfl,DPut.k (k:=Sum.inr (tx p.2)) hrow (by rw [encD_len,sizeLine_eq]; omega),hq _ ?_⟩
            rw [put_enc V.int row p.2 _ hnd]
            rfl
        have common:∀ (ad:Addr) (row:List (S × Int)) (Hx H4:Hp),Same H Hx→H ad = none→Hx l = some (.lst xs)→Reps K Hx ((pairs1 o nm).map elD) xs→H4 = upd Hx ad (.dK (rowV (bump row p.2)))→Hx ad = some (.dK (rowV row))→RA H H4 d (ps ++ [p]) (putA ra2 p.1 (ad,bump row p.2)) →
            Nx2 [some (.ref a),some (.int o),some (.ref d),some (sv nm),some (sv p.1),some (sv p.2),some (.ref ad)] H4:=by
          intro ad row Hx H4 sx had hxl hxr e4 hrow RR
          have hadl:ad≠l:=ne_of hrow hxl (by intro z; cases z)
          subst e4
          refine hN2 _ _ ⟨⟨_,_,_,rfl⟩,sx.upd_new had,by rw [upd_ne hadl.symm]; exact hxl,Reps.sameQ (SameQ.upd hrow) _ _ hxr,_,by rw [etk]; exact RR,fun r hr=>?_⟩
          rcases putA_mem hr with e | ⟨e,_⟩
          · rw [e]; exact hadl
          · exact hal r e
        have hx3:upd H2 e0 (.dK []) d = some (.dK (encD (fun v:Addr × List (S × Int)=>V.ref v.1) ra2)):=by rw [upd_ne hde]; exact R2.top
        have hl3:upd H2 e0 (.dK []) l = some (.lst xs):=s3 _ _ hl2
        have hr3:∀ r∈ra2,upd H2 e0 (.dK []) r.2.1 = some (.dK (rowV r.2.2)):=fun r hr=>s3 _ _ (R2.row r hr)
        have hre:∀ r∈ra2,r.2.1≠e0:=fun r hr=>ne_of_none (R2.row r hr) he0
        refine ⟨d,_,Sum.inr (tx p.1),_,rfl,rfl,hx3,by rw [encD_len,sizeLine_eq]; omega,fun yv hyv=>?_,fun hnv=>?_⟩
        ·
          rw [val_enc] at hyv
          cases g:getA ra2 p.1 with
          | none=>rw [g] at hyv; cases hyv
          | some v =>
          rw [g] at hyv
          have ev:yv = .ref v.1:=(Option.some.inj hyv).symm
          subst ev
          obtain ⟨r1,r2,r3,r4,r5⟩:=row_of R2 g
          have hrow3:upd H2 e0 (.dK []) v.1 = some (.dK (rowV v.2)):=s3 _ _ r1
          refine fin v.1 v.2 _ hrow3 r2 (by omega) fun H4 e4=>common v.1 v.2 _ H4 (sm2.trans s3) r4 hl3 (Reps.same s3 _ _ rp2) e4 hrow3 ?_
          refine R2.step p v.2 (by rw [g]; rfl) (fun v' hv'=>by rw [g] at hv'; rw [Option.some.inj hv']) (fun hn=>by rw [g] at hn; cases hn) (by rw [e4,upd_same]) ?_ fun r hr hne=>?_
          · rw [e4,upd_ne r5.symm,hx3]
            have:=encD_same (fun v:Addr × List (S × Int)=>V.ref v.1) ra2 p.1 (v.1,bump v.2 p.2) v g rfl
            rw [this]
          · rw [e4,upd_ne hne]; exact hr3 r hr
        ·
          rw [val_enc] at hnv
          have g:getA ra2 p.1 = none:=by
            cases g:getA ra2 p.1 with
            | none=>rfl
            | some v=>rw [g] at hnv; cases hnv
          have hp2:=put_enc (fun v:Addr × List (S × Int)=>V.ref v.1) ra2 p.1 (e0,[]) (keys_nd R2)
          have hHx:upd (upd H2 e0 (.dK [])) d (.dK (putK (encD (fun v:Addr × List (S × Int)=>V.ref v.1) ra2) (Sum.inr (tx p.1)) (.ref e0))) e0 = some (.dK (rowV [])):=by
            rw [upd_ne hde.symm,upd_same]; rfl
          refine fin e0 [] _ hHx (by simp) (by simp) fun H4 e4=>common e0 [] _ H4 ((sm2.trans s3).upd_new hd) he0H (by rw [upd_ne hdl]; exact hl3) (Reps.sameQ (SameQ.upd hx3) _ _ (Reps.same s3 _ _ rp2)) e4 hHx ?_
          refine R2.step p [] (by rw [g]; rfl) (fun v' hv'=>by rw [g] at hv'; cases hv') (fun _=>⟨he0H,hde.symm,fun hm=>?_⟩) (by rw [e4,upd_same]) ?_ fun r hr hne=>?_
          · obtain ⟨r,hr,e⟩:=List.mem_map.mp hm
            exact hre r hr e
          · rw [e4,upd_ne hde,upd_same,hp2]
            congr 2
            have hk:p.1 ∉ ra2.map (·.1):=getA_none.mp g
            rw [putA_new _ _ _ hk,putA_new _ _ _ hk]
            unfold encD encK
            rw [List.map_append,List.map_append,List.map_append,List.map_append]
            rfl
          · rw [e4,upd_ne hne,upd_ne (R2.new r hr).2]; exact hr3 r hr
      · rintro σ H2 ⟨⟨y,z,u,rfl⟩,sm2,hl2,rp2,ra2,R2,_⟩
        refine hN _ _ ⟨⟨_,_,_,_,rfl⟩,sm2,ra2,?_⟩
        rw [epairs]
        have hxl:xs.length = (pairs1 o nm).length:=by have:=rp2.length; simpa using this.symm
        rw [hxl,List.take_length] at R2
        exact R2
    · rintro σ H' ⟨⟨x1,x2,x3,x4,rfl⟩,sm,ra,R⟩
      refine ⟨_,rfl,k d H' sm hd ⟨ra,?_,R.top,R.row⟩⟩
      rw [R.rows]
      have:(bkV bk).length = bk.length:=by simp [bkV]
      rw [this,List.take_length]
end
end Kn
end
section
set_option Elab.async false
set_option linter.all false
set_option maxRecDepth 100000
set_option maxHeartbeats 1000000
namespace Kn
open PySem L2
section
variable {P:Program} {w:World} {K:PySem.W.Frag} {mg:Str→Option Value} {base:Heap}
theorem gcd_step {a b:Int} (ha:0≤a) (hb:0 < b):Int.gcd b (a % b) = Int.gcd a b:=by
  obtain ⟨x,rfl⟩:=Int.eq_ofNat_of_zero_le ha
  obtain ⟨y,rfl⟩:=Int.eq_ofNat_of_zero_le (Int.le_of_lt hb)
  have e:((x:Int) % (y:Int)) = ((x % y:Nat):Int):=rfl
  rw [e]
  show Nat.gcd y (x % y) = Nat.gcd x y
  rw [Nat.gcd_comm y (x % y),← Nat.gcd_rec,Nat.gcd_comm]
def spGcd:Sp:=fun vs H Q _=>∃ u d:Int,vs = [.int u,.int d]∧0≤u∧0 < d∧d < 1073741824∧Q (.int (gcdI u d)) H
abbrev sGcd:Stmt:=top 26
theorem scGcd:FnScope ["one", "other", "rest"] ["one", "other"] (defScope sGcd):=⟨rfl,rfl,rfl,by decide +kernel,rfl,by decide +kernel,by decide +kernel⟩
abbrev frO (q:Int × Int):HO:=.tup [.int q.1,.int q.2]
def spLow:Sp:=fun vs H Q _=>∃ u d:Int,vs = [.int u,.int d]∧0≤u∧0 < d∧d < 1073741824∧∀ p,H p = none→Q (.ref p) (upd H p (frO (low u d)))
abbrev sLow:Stmt:=top 27
theorem scLow:FnScope ["up", "down", "divisor"] ["up", "down"] (defScope sLow):=⟨rfl,rfl,rfl,by decide +kernel,rfl,by decide +kernel,by decide +kernel⟩
structure Sm (q:Int × Int):Prop extends Fq q where
  u1:q.1 < 1073741824
  d1:q.2 < 1073741824
def FrA (K:PySem.W.Frag) (H:Hp) (v:V) (q:Int × Int):Prop:=∃ a,v = .ref a∧SqT K H a [.int q.1,.int q.2]
theorem FrA.same {H H':Hp} {v:V} {q:Int × Int} (h:FrA K H v q) (e:Same H H'):FrA K H' v q:=by
  obtain ⟨a,h1,h2⟩:=h
  exact ⟨a,h1,e.seqT h2⟩
theorem FrA.new {H:Hp} {p:Addr} {q:Int × Int}:FrA K (upd H p (frO q)) (.ref p) q:=⟨p,rfl,.of upd_same⟩
theorem FrA.rep {H:Hp} {v:V} {q:Int × Int} (h:FrA K H v q):Rep K H (.tuple [.int q.1,.int q.2]) v:=by
  obtain ⟨a,h1,h2⟩:=h
  exact ⟨a,_,h1,h2,_,_,rfl,rfl,_,_,rfl,rfl,rfl⟩
theorem FrA.of_rep {H:Hp} {v:V} {q:Int × Int} (h:Rep K H (.tuple [.int q.1,.int q.2]) v):FrA K H v q:=by
  obtain ⟨a,xs,h1,h2,y,ys,rfl,h3,z,zs,rfl,h4,h5⟩:=h
  have e1:y = .int q.1:=h3
  have e2:z = .int q.2:=h4
  have e3:zs = []:=h5
  subst e1 e2 e3
  exact ⟨a,h1,h2⟩
def spTimes (K:PySem.W.Frag):Sp:=fun vs H Q _=>∃ (x y:V) (p q:Int × Int),vs = [x,y]∧FrA K H x p∧FrA K H y q∧Sm p∧Sm q∧p.2 * q.2 < 1073741824∧∀ a,H a = none→Q (.ref a) (upd H a (frO (tms p q)))
def spLess (K:PySem.W.Frag):Sp:=fun vs H Q _=>∃ (x y:V) (p q:Int × Int),vs = [x,y]∧FrA K H x p∧FrA K H y q∧Sm p∧Sm q∧Q (.bl (lss p q)) H
abbrev sTimes:Stmt:=top 28
abbrev sLess:Stmt:=top 29
theorem scTimes:FnScope ["one", "other"] ["one", "other"] (defScope sTimes):=⟨rfl,rfl,rfl,by decide +kernel,rfl,by decide +kernel,by decide +kernel⟩
theorem scLess:FnScope ["one", "other"] ["one", "other"] (defScope sLess):=⟨rfl,rfl,rfl,by decide +kernel,rfl,by decide +kernel,by decide +kernel⟩
theorem cm {p:Int} (a:0≤p) (b:p < 1073741824) (q:Int):CMul p q:=.inl ⟨by omega,by omega⟩
theorem ok_times {f:Addr} {fd:FuncData} (F:Fun K "times" "times" sTimes f fd) (c1:Cal P w K mg base 2 "lowest" ["up", "down"] spLow):FnOk P w K mg base CX0 3 f fd ["one", "other"] (spTimes K):=by
  refine F.ok scTimes (fun vs H Q E h=>?_) (fun cdv A outer s H vs Q E hr h=>?_)
  · obtain ⟨x,y,p,q,rfl,_⟩:=h; rfl
  · obtain ⟨x,y,p,q,rfl,⟨a,rfl,ha⟩,⟨b,rfl,hb⟩,sp,sq,hpq,k⟩:=h
    refine ⟨_,pss_one (ps_ret (pe_cal c1 hr rfl (pa_cons (pe_op op_mul (pe_ix ix_tup (pv 0) pe_int (fun _ _=>rfl)) (pe_ix ix_tup (pv 1) pe_int (fun _ _=>rfl)))
      (pa_cons (pe_op op_mul (pe_ix ix_tup (pv 0) pe_int (fun _ _=>rfl)) (pe_ix ix_tup (pv 1) pe_int (fun _ _=>rfl))) pa_nil)))),?_⟩
    have p0:=sp.up; have q0:=sq.up; have p1:=sp.dn; have q1:=sq.dn
    refine ⟨_,rfl,a,_,0,_,rfl,rfl,ha,rfl,_,rfl,b,_,0,_,rfl,rfl,hb,rfl,_,_,rfl,rfl,cm p0 sp.u1 _,?_⟩
    refine ⟨_,rfl,a,_,1,_,rfl,rfl,ha,rfl,_,rfl,b,_,1,_,rfl,rfl,hb,rfl,_,_,rfl,rfl,cm (Int.le_of_lt p1) sp.d1 _,?_⟩
    exact ⟨_,_,rfl,Int.mul_nonneg p0 q0,Int.mul_pos p1 q1,hpq,k⟩
theorem ok_less {f:Addr} {fd:FuncData} (F:Fun K "is_less" "is_less" sLess f fd):FnOk P w K mg base CX0 1 f fd ["one", "other"] (spLess K):=by
  refine F.ok scLess (fun vs H Q E h=>?_) (fun cdv A outer s H vs Q E hr h=>?_)
  · obtain ⟨x,y,p,q,rfl,_⟩:=h; rfl
  · obtain ⟨x,y,p,q,rfl,⟨a,rfl,ha⟩,⟨b,rfl,hb⟩,sp,sq,k⟩:=h
    refine ⟨_,pss_one (ps_ret (pe_cmpR op_lt (pe_op op_mul (pe_ix ix_tup (pv 0) pe_int (fun _ _=>rfl)) (pe_ix ix_tup (pv 1) pe_int (fun _ _=>rfl))) (pe_op op_mul (pe_ix ix_tup (pv 1) pe_int (fun _ _=>rfl)) (pe_ix ix_tup (pv 0) pe_int (fun _ _=>rfl))) (nomark _))),?_⟩
    have p0:=sp.up; have q0:=sq.up
    refine ⟨_,rfl,a,_,0,_,rfl,rfl,ha,rfl,_,rfl,b,_,1,_,rfl,rfl,hb,rfl,_,_,rfl,rfl,cm p0 sp.u1 _,?_⟩
    exact ⟨_,rfl,b,_,0,_,rfl,rfl,hb,rfl,_,rfl,a,_,1,_,rfl,rfl,ha,rfl,_,_,rfl,rfl,cm q0 sq.u1 _,_,_,rfl,rfl,k⟩
end
end Kn
end
section
set_option Elab.async false
set_option linter.all false
set_option maxRecDepth 100000
set_option maxHeartbeats 1000000
namespace Kn
open PySem L2
theorem row_total {ps:List (S × S)} {e:S} {xs:List (S × Int)} (nd:(xs.map (·.1)).Nodup) (mem:∀ l n,(l,n)∈xs↔n = (ps.count (e,l):Int)∧0 < n):(xs.map (·.2)).sum = (tot ps e:Int):=by
  have h:=sum_counts (ps.filter fun p=>decide (p.1 = e)) (xs.map fun p=>(e,p.1)) ?_ ?_
  · unfold tot
    rw [← h,List.map_map]
    congr 1
    apply List.map_congr_left
    rintro ⟨l,n⟩ hm
    have:=((mem l n).mp hm).1
    show n = (List.count (e,l) (ps.filter fun p=>decide (p.1 = e)):Int)
    rw [List.count_filter (by simp)]
    exact this
  · have:=nd
    rw [List.Nodup,List.pairwise_map] at this ⊢
    exact this.imp fun {p q} hpq z=>hpq (congrArg Prod.snd z)
  · rintro ⟨e',l⟩ hm
    obtain ⟨h1,h2⟩:=List.mem_filter.mp hm
    have h2':e' = e:=by simpa using h2
    subst h2'
    exact List.mem_map.mpr ⟨(l,(ps.count (e',l):Int)),(mem l _).mpr ⟨rfl,by
      have:=List.count_pos_iff.mpr h1
      omega⟩,rfl⟩
def rowOf (ps:List (S × S)) (e:S):List (S × Int):=(getA (rowsOf ps) e).getD []
theorem rowOf_nd (ps:List (S × S)) (e:S):((rowOf ps e).map (·.1)).Nodup:=by
  unfold rowOf
  cases g:getA (rowsOf ps) e with
  | none=>simp
  | some row=>exact (rows_ok ps).ndr e row ((getA_mem (rows_ok ps).nd e row).mpr g)
theorem rowOf_get (ps:List (S × S)) (e l:S):getA (rowOf ps e) l = if 0 < ps.count (e,l) then some (ps.count (e,l):Int) else none:=(rows_ok ps).val e l
theorem rowOf_mem (ps:List (S × S)) (e l:S) (n:Int):(l,n)∈rowOf ps e↔n = (ps.count (e,l):Int)∧0 < n:=by
  rw [getA_mem (rowOf_nd ps e),rowOf_get]
  by_cases c:0 < ps.count (e,l)
  · rw [if_pos c]
    constructor
    · intro z
      have:=Option.some.inj z
      omega
    · rintro ⟨z,_⟩; rw [z]
  · rw [if_neg c]
    constructor
    · intro z; cases z
    · rintro ⟨z1,z2⟩; omega
theorem rowOf_total (ps:List (S × S)) (e:S):((rowOf ps e).map (·.2)).sum = (tot ps e:Int):=row_total (rowOf_nd ps e) (rowOf_mem ps e)
theorem tot_le (ps:List (S × S)) (e:S):tot ps e≤ps.length:=List.length_filter_le ..
structure Cst2 (K:PySem.W.Frag) (mg:Str→Option Value):Prop where
  nought:∃ a,mg "NOUGHT" = some (.ref a)∧∀ H,SqT K H a [.int 0,.int 1]
  whole:∃ a,mg "WHOLE" = some (.ref a)∧∀ H,SqT K H a [.int 1,.int 1]
section
variable {P:Program} {w:World} {K:PySem.W.Frag} {mg:Str→Option Value} {base:Heap}
def spPart (K:PySem.W.Frag):Sp:=fun vs H Q _=>∃ (d:Addr) (ps:List (S × S)) (e l:S),vs = [.ref d,sv l]∧H d = some (.dK (rowV (rowOf ps e)))∧ps.length < 1000∧∀ v H',Same H H'→FrA K H' v (part ps e l)→Q v H'
abbrev sPart:Stmt:=top 30
theorem scPart:FnScope ["row", "letter"] ["row", "letter"] (defScope sPart):=⟨rfl,rfl,rfl,by decide +kernel,rfl,by decide +kernel,by decide +kernel⟩
end
end Kn
end
section
set_option Elab.async false
set_option linter.all false
set_option maxRecDepth 100000
set_option maxHeartbeats 1000000
namespace Kn
open PySem L2
section
variable {P:Program} {w:World} {K:PySem.W.Frag} {mg:Str→Option Value} {base:Heap}
theorem pg_tupK {X:Cx} (K':PySem.W.Frag) {pos:Pos} {es:List Expr} {k:Nat} {t:TGs} (n:Nat) (hK:X.K = K') (hc:X.calm = true) (h:PGs X es t)
    (hn:(assignEach es X.env).length = n) (hst:(assignEach es X.env).findIdx? (·.1) = none):PG X (.Tuple es k pos) (gTup K' n t):=by
  subst hK
  exact pg_tup hc h hn hst
def frD (q:Int × Int):PyData:=.tuple [.int q.1,.int q.2]
def stD (ps:List (S × S)) (p:S × S):PyData:=.tuple [.str (tx p.1),.str (tx p.2),frD (part ps p.1 p.2)]
def spStepsR (K:PySem.W.Frag):Sp:=fun vs H Q _=>∃ (d:Addr) (ps:List (S × S)) (o:Nat) (nm:S),vs = [.ref d,.int o,sv nm]∧RowsAt H d ps∧ps.length < 1000∧1≤o∧nm.length≤64 ∧
  ∀ a xs H',Same H H'→H a = none→H' a = some (.lst xs)→Reps K H' ((pairs1 o nm).map (stD ps)) xs→Q (.ref a) H'
abbrev sStepsR:Stmt:=top 31
theorem scStepsR:FnScope ["rows", "order", "name"] ["rows", "order", "name"] (defScope sStepsR):=⟨rfl,rfl,rfl,by decide +kernel,rfl,by decide +kernel,by decide +kernel⟩
theorem nd3:(["rows", "end", "letter"]:List Str).Nodup:=by decide +kernel
theorem RowsAt.get {H:Hp} {d:Addr} {ps:List (S × S)} (h:RowsAt H d ps) (e:S):∃ kvs:List (Key × V),H d = some (.dK kvs)∧((valV kvs (Sum.inr (tx e)) = none∧rowOf ps e = [])∨∃ a,valV kvs (Sum.inr (tx e)) = some (.ref a)∧H a = some (.dK (rowV (rowOf ps e)))):=by
  obtain ⟨ra,h1,h2,h3⟩:=h
  refine ⟨_,h2,?_⟩
  rw [val_enc]
  have nd:(ra.map (·.1)).Nodup:=by
    have h:=(rows_ok ps).nd
    rw [← h1,List.map_map] at h
    exact h
  have e2:getA (rowsOf ps) e = (getA ra e).map (·.2):=by
    rw [← h1]
    exact getA_map (fun v:Addr × List (S × Int)=>v.2) ra e
  cases g:getA ra e with
  | none=>exact .inl ⟨rfl,by unfold rowOf; rw [e2,g]; rfl⟩
  | some v =>
    refine .inr ⟨v.1,rfl,?_⟩
    have:=h3 _ ((getA_mem nd e v).mpr g)
    unfold rowOf
    rw [e2,g]
    exact this
theorem pairs1_len (o:Nat) (nm:S):(pairs1 o nm).length = nm.length + 1:=by simp [pairs1]
theorem rp_el {H:Hp} {o:Nat} {nm:S} {xs:List V} {i:Nat} {x:V} (rp:Reps K H ((pairs1 o nm).map elD) xs) (hx:xs[i]? = some x):∃ (p:S × S) (a:Addr),(pairs1 o nm)[i]? = some p∧x = .ref a∧SqT K H a [sv p.1,sv p.2]:=by
  obtain ⟨dd,hdd,rx⟩:=rp.get hx
  rw [List.getElem?_map] at hdd
  cases ep:(pairs1 o nm)[i]? with
  | none=>rw [ep] at hdd; cases hdd
  | some p =>
  rw [ep] at hdd
  have hd2:dd = elD p:=(Option.some.inj hdd).symm
  subst hd2
  obtain ⟨at',xs',rfl,hsq,y1,ys1',rfl,ry1,y2,ys2',rfl,ry2,hnil⟩:=rx
  have ey1:y1 = sv p.1:=ry1
  have ey2:y2 = sv p.2:=ry2
  have en:ys2' = []:=hnil
  subst ey1 ey2 en
  exact ⟨p,at',rfl,rfl,hsq⟩
theorem ok_stepsR {f:Addr} {fd:FuncData} (F:Fun K "steps_by_rows" "steps_by_rows" sStepsR f fd) (cEnds:Cal P w K mg base 2 "ends_and_letters" ["name", "order"] (spEnds K)) (cPart:Cal P w K mg base 3 "part_in" ["row", "letter"] (spPart K)) :
    FnOk P w K mg base CX0 4 f fd ["rows", "order", "name"] (spStepsR K):=by
  refine F.ok scStepsR (fun vs H Q E h=>?_) (fun cdv A outer s H vs Q E hr h=>?_)
  · obtain ⟨d,ps,o,nm,rfl,_⟩:=h; rfl
  · obtain ⟨d,ps,o,nm,rfl,hR,hps,ho,hl,k⟩:=h
    have hu:=hu_of hr
    have hr2:=hr.mono (j:=2) (by decide)
    refine ⟨_,pss_one (ps_ret (pe_comp (N:=["rows", "end", "letter"]) (caps:=[0]) rfl (compScope_of (by kernel_rfl))
      (pi_list (pe_cal cEnds hr2 rfl (pa_cons (pv 2) (pa_cons (pv 1) pa_nil))))
      (fun cl C s H ex=>pg_tupK K 2 rfl rfl (pgs_cons (pg_name (i:=1) nd3 rfl (Or.inl rfl)) (pgs_cons (pg_name (i:=2) nd3 rfl (Or.inl rfl)) pgs_nil)) rfl rfl)
      (fun cl C s H ex=>pf_nil)
      (fun cl C s H ex=>pe_tup (pa_cons (pv 1) (pa_cons (pv 2) (pa_cons (pe_cal cPart hr rfl (pa_cons (pe_dget2 hu (pv 0) (pv 1) pe_dnewK ⟨rfl,rfl,rfl,rfl⟩) (pa_cons (pv 2) pa_nil))) pa_nil)))))),?_⟩
    refine ⟨_,rfl,_,rfl,nm,o,rfl,ho,hl,fun l xs Hl sml hln hll rp=>?_⟩
    refine ⟨l,rfl,⟨_,.of hll⟩,?_⟩
    have hxl:xs.length = nm.length + 1:=by have:=rp.length; rw [← this,List.length_map,pairs1_len]
    refine comp_known0 (known_list K l xs) [some (.ref d)] 2 (by omega) (fun i acc H'=>Same Hl H'∧acc.length = i∧Reps K H' (((pairs1 o nm).take i).map (stD ps)) acc)
      ⟨Same.refl _,rfl,rfl⟩ (fun i acc H' _ h=>⟨.of (h.1 _ _ hll),Nat.le_of_eq h.2.1⟩) ?_ ?_
    · rintro i x acc H' ys Nx hN hx hy ⟨sm,hal,rp'⟩
      obtain ⟨y,z,rfl⟩:=ys2 hy
      obtain ⟨p,at',ep,rfl,hsq⟩:=rp_el (Reps.same sm _ _ rp) hx
      have hj:i < (pairs1 o nm).length:=(List.getElem?_eq_some_iff.mp ep).1
      refine ⟨at',[sv p.1,sv p.2],rfl,hsq,rfl,_,_,rfl,_,_,rfl,rfl,?_⟩
      have R':RowsAt H' d ps:=(hR.same sml).same sm
      obtain ⟨kvs,hd,hv⟩:=R'.get p.1
      refine ⟨_,rfl,_,rfl,_,rfl,d,rfl,.inl ⟨_,.inl hd⟩,_,rfl,fun e0 he0=>?_⟩
      have s3:Same H' (upd H' e0 (.dK [])):=Same.upd1 he0
      have fin:∀ (ra:Addr),upd H' e0 (.dK []) ra = some (.dK (rowV (rowOf ps p.1)))→∀ v,v = V.ref ra→(∀ (ra2:V) (H5:Hp),Same (upd H' e0 (.dK [])) H5→FrA K H5 ra2 (part ps p.1 p.2)→∀ pp,H5 pp = none→Nx (acc ++ [.ref pp]) [some (.ref d),some (sv p.1),some (sv p.2)] (upd H5 pp (.tup [sv p.1,sv p.2,ra2]))):=by
        intro ra hra v hv' ra2 H5 s5 fr pp hpp
        refine hN _ _ [some (sv p.1),some (sv p.2)] rfl ⟨((sm.trans s3).trans s5).trans (Same.upd1 hpp),by rw [List.length_append,hal]; rfl,?_⟩
        rw [List.take_succ_eq_append_getElem hj,(List.getElem?_eq_some_iff.mp ep).2,List.map_append]
        refine Reps.append (Reps.same ((s3.trans s5).trans (Same.upd1 hpp)) _ _ rp') (Reps.one ⟨pp,_,rfl,.of upd_same,?_⟩)
        exact ⟨_,_,rfl,rfl,_,_,rfl,rfl,_,_,rfl,(fr.same (Same.upd1 hpp)).rep,rfl⟩
      have hd3:upd H' e0 (.dK []) d = some (.dK kvs):=s3 _ _ hd
      refine ⟨_,DGet.k (k:=Sum.inr (tx p.1)) hd3,_,rfl,?_⟩
      rcases hv with ⟨hv1,hv2⟩ | ⟨ra,hv1,hv2⟩
      · rw [hv1]
        have hra:upd H' e0 (.dK []) e0 = some (.dK (rowV (rowOf ps p.1))):=by rw [upd_same,hv2]; rfl
        exact ⟨e0,ps,p.1,p.2,rfl,hra,hps,fun v H5 s5 fr=>⟨by show 3≤sizeLine; decide,fun pp hpp=>fin e0 hra _ rfl v H5 s5 fr pp hpp⟩⟩
      · rw [hv1]
        have hra:upd H' e0 (.dK []) ra = some (.dK (rowV (rowOf ps p.1))):=s3 _ _ hv2
        exact ⟨ra,ps,p.1,p.2,rfl,hra,hps,fun v H5 s5 fr=>⟨by show 3≤sizeLine; decide,fun pp hpp=>fin ra hra _ rfl v H5 s5 fr pp hpp⟩⟩
    · rintro acc H' ⟨sm,hal,rp'⟩ D hD
      have sml2:=sml.trans sm
      refine k D acc _ (sml2.upd_new (sml2.free hD)) (sml2.free hD) upd_same (Reps.same (Same.upd1 hD) _ _ ?_)
      have e1:(pairs1 o nm).take xs.length = pairs1 o nm:=by rw [hxl,← pairs1_len o nm,List.take_length]
      rw [e1] at rp'
      exact rp'
end
end Kn
end
section
set_option Elab.async false
set_option linter.all false
set_option maxRecDepth 100000
set_option maxHeartbeats 1000000
namespace Kn
open PySem L2
theorem shareG_dn {ps:List (S × S)} (h1:1≤ps.length) (qs:List (S × S)):(shareG ps qs).2≤((ps.length ^ qs.length:Nat):Int):=by
  have:=foldG_dn h1 qs (1,1) 0 fq11 (by simp)
  rw [Nat.zero_add] at this
  rw [Int.natCast_pow]
  exact this
theorem shareG_fq (ps qs:List (S × S)):Fq (shareG ps qs):=foldG_fq ps qs _ fq11
theorem shareG_le1 (ps qs:List (S × S)):(shareG ps qs).1≤(shareG ps qs).2:=foldG_le1 ps qs _ fq11 (by decide)
theorem shareG_snoc (ps qs:List (S × S)) (p:S × S):shareG ps (qs ++ [p]) = tms (shareG ps qs) (part ps p.1 p.2):=by
  unfold shareG; rw [List.foldl_append]; rfl
theorem Sm.of_le {q:Int × Int} (h:Fq q) (h1:q.1≤q.2) (h2:q.2 < 1073741824):Sm q:=⟨h,by omega,h2⟩
theorem share_sm {ps:List (S × S)} {o:Nat} {nm:S} (h1:1≤ps.length) (h:ps.length ^ (nm.length + 1) < 1073741824):Sm (shareOf ps o nm):=by
  refine .of_le (share_fq ..) (share_le1 ..) ?_
  have:=shareG_dn h1 (pairs1 o nm)
  rw [pairs1_len] at this
  unfold shareOf
  omega
section
variable {P:Program} {w:World} {K:PySem.W.Frag} {mg:Str→Option Value} {base:Heap}
theorem rp_st {H:Hp} {ps:List (S × S)} {qs:List (S × S)} {xs:List V} {i:Nat} {x:V} (rp:Reps K H (qs.map (stD ps)) xs) (hx:xs[i]? = some x):∃ (p:S × S) (a:Addr) (v:V),qs[i]? = some p∧x = .ref a∧SqT K H a [sv p.1,sv p.2,v]∧FrA K H v (part ps p.1 p.2):=by
  obtain ⟨dd,hdd,rx⟩:=rp.get hx
  rw [List.getElem?_map] at hdd
  cases ep:qs[i]? with
  | none=>rw [ep] at hdd; cases hdd
  | some p =>
  rw [ep] at hdd
  have hd2:dd = stD ps p:=(Option.some.inj hdd).symm
  subst hd2
  obtain ⟨at',xs',rfl,hsq,y1,ys1',rfl,ry1,y2,ys2',rfl,ry2,y3,ys3',rfl,ry3,hnil⟩:=rx
  have ey1:y1 = sv p.1:=ry1
  have ey2:y2 = sv p.2:=ry2
  have en:ys3' = []:=hnil
  subst ey1 ey2 en
  exact ⟨p,at',y3,rfl,rfl,hsq,FrA.of_rep ry3⟩
def spShareR (K:PySem.W.Frag):Sp:=fun vs H Q _=>∃ (d:Addr) (ps:List (S × S)) (o:Nat) (nm:S),vs = [.ref d,.int o,sv nm]∧RowsAt H d ps∧1≤ps.length∧ps.length < 1000∧ps.length ^ (nm.length + 1) < 1073741824∧1≤o∧nm.length≤64 ∧
  ∀ v H',Same H H'→FrA K H' v (shareOf ps o nm)→Q v H'
abbrev sShareR:Stmt:=top 32
theorem scShareR:FnScope ["rows", "order", "name", "product", "step"] ["rows", "order", "name"] (defScope sShareR):=⟨rfl,rfl,rfl,by decide +kernel,rfl,by decide +kernel,by decide +kernel⟩
theorem ok_shareR {f:Addr} {fd:FuncData} (F:Fun K "share_by_rows" "share_by_rows" sShareR f fd) (C:Cst2 K mg) (cSt:Cal P w K mg base 4 "steps_by_rows" ["rows", "order", "name"] (spStepsR K)) (cT:Cal P w K mg base 3 "times" ["one", "other"] (spTimes K)) :
    FnOk P w K mg base CX0 5 f fd ["rows", "order", "name"] (spShareR K):=by
  obtain ⟨aW,hW,tW⟩:=C.whole
  refine F.ok scShareR (fun vs H Q E h=>?_) (fun cdv A outer s H vs Q E hr h=>?_)
  · obtain ⟨d,ps,o,nm,rfl,_⟩:=h; rfl
  · obtain ⟨d,ps,o,nm,rfl,hR,hp1,hps,hpow,ho,hl,k⟩:=h
    have hu:=hu_of hr
    have hr3:=hr.mono (j:=3) (by decide)
    have nd:=scShareR.nd
    refine ⟨_,pss_cons (ps_set (i:=3) nd rfl (Or.inl rfl) (pe_glob (v:=.ref aW) (by rfl) hW rfl))
      (pss_cons (ps_for PassesOwn.never rfl (pi_list (pe_cal cSt hr rfl (pa_cons (pv 0) (pa_cons (pv 1) (pa_cons (pv 2) pa_nil))))) (pg_name (i:=4) nd rfl (Or.inl rfl))
        (pss_one (ps_set (i:=3) nd rfl (Or.inl rfl) (pe_cal cT hr3 rfl (pa_cons (pv 3) (pa_cons (pe_ix ix_tup (pv 4) pe_int (fun _ _=>rfl)) pa_nil))))))
      (pss_one (ps_ret (pv 3)))),?_⟩
    refine ⟨_,rfl,_,rfl,_,rfl,d,ps,o,nm,rfl,hR,hps,ho,hl,fun l xs Hl sml hln hll rp=>?_⟩
    refine ⟨l,rfl,⟨_,.of hll⟩,?_⟩
    have hxl:xs.length = nm.length + 1:=by have:=rp.length; rw [← this,List.length_map,pairs1_len]
    refine for_known (known_list K l xs) (fun i σ H2=>∃ (v:V) (y:Option V),σ = [some (.ref d),some (.int o),some (sv nm),some v,y]∧Same Hl H2∧FrA K H2 v (shareG ps ((pairs1 o nm).take i)))
      ⟨_,_,rfl,Same.refl _,⟨aW,rfl,tW _⟩⟩ (fun i σ H' _ h=>by obtain ⟨_,_,_,h,_⟩:=h; exact .of (h _ _ hll)) ?_ ?_
    · rintro i x σ H2 Nx hN hx ⟨v,y,rfl,sm,fr⟩
      obtain ⟨p,at',u,ep,rfl,hsq,fu⟩:=rp_st (Reps.same sm _ _ rp) hx
      have hj:i < (pairs1 o nm).length:=(List.getElem?_eq_some_iff.mp ep).1
      have hj2:i < nm.length + 1:=by rw [pairs1_len] at hj; exact hj
      have hti:((pairs1 o nm).take i).length = i:=by rw [List.length_take]; omega
      have hdn:=shareG_dn hp1 ((pairs1 o nm).take i)
      rw [hti] at hdn
      have hpi:ps.length ^ i≤ps.length ^ (nm.length + 1):=Nat.pow_le_pow_right hp1 (by omega)
      have hpi1:ps.length ^ (i + 1)≤ps.length ^ (nm.length + 1):=Nat.pow_le_pow_right hp1 (by omega)
      have hpd:=part_dn p.1 p.2 hp1
      have s1:Sm (shareG ps ((pairs1 o nm).take i)):=.of_le (shareG_fq ..) (shareG_le1 ..) (by omega)
      have s2:Sm (part ps p.1 p.2):=.of_le (part_fq ..) (part_le1 ..) (by omega)
      refine ⟨_,rfl,_,rfl,at',_,2,u,rfl,rfl,hsq,rfl,v,u,_,_,rfl,fr,fu,s1,s2,?_,fun b hb=>hN _ _ ⟨_,_,rfl,sm.trans (Same.upd1 hb),?_⟩⟩
      · have hm:(shareG ps ((pairs1 o nm).take i)).2 * (part ps p.1 p.2).2≤((ps.length ^ i:Nat):Int) * (ps.length:Int):=Int.mul_le_mul hdn hpd (Int.le_of_lt s2.dn) (Int.natCast_nonneg _)
        have e:((ps.length ^ i:Nat):Int) * (ps.length:Int) = ((ps.length ^ (i + 1):Nat):Int):=by rw [Nat.pow_succ]; rfl
        rw [e] at hm
        omega
      · rw [List.take_succ_eq_append_getElem hj,(List.getElem?_eq_some_iff.mp ep).2,shareG_snoc]
        exact FrA.new
    · rintro σ H2 ⟨v,y,rfl,sm,fr⟩
      refine ⟨_,rfl,k v H2 (sml.trans sm) ?_⟩
      have e1:(pairs1 o nm).take xs.length = pairs1 o nm:=by rw [hxl,← pairs1_len o nm,List.take_length]
      rw [e1] at fr
      exact fr
structure Bk (bk:List S) (o:Nat):Prop extends isBk bk where
  o1:1≤o
  o3:o≤3
structure Fit (bk:List S) (o:Nat) (x:S):Prop extends Bk bk o where
  nmn:isNm x
  pw:(pairsB o bk).length ^ (x.length + 1) < 1073741824
theorem Bk.l8 {bk:List S} {o:Nat} (h:Bk bk o):∀ x∈bk,x.length≤8:=fun x hx=>(h.nm x hx).2.1
theorem pairs_len {bk:List S} {o:Nat} (h:Bk bk o):1≤(pairsB o bk).length∧(pairsB o bk).length < 1000:=by
  have e:=pairsB_length o bk
  have go:∀ l:List S,(∀ x∈l,x.length≤8)→(l.length:Int)≤(l.map fun x=>(x.length:Int) + 1).sum∧(l.map fun x=>(x.length:Int) + 1).sum≤9 * (l.length:Int):=by
    intro l
    induction l with
    | nil=>intro _; simp
    | cons x r ih =>
      intro hl
      have h1:=hl x (List.mem_cons_self ..)
      have h2:=ih fun y hy=>hl y (List.mem_cons_of_mem _ hy)
      rw [List.map_cons,List.sum_cons,List.length_cons]
      have:((r.length + 1:Nat):Int) = (r.length:Int) + 1:=rfl
      omega
  have:=go bk h.l8
  have h1:=h.lo
  have h2:=h.hi
  omega
abbrev sShare:Stmt:=top 33
abbrev sMakes:Stmt:=top 34
theorem scShare:FnScope ["book", "order", "name"] ["book", "order", "name"] (defScope sShare):=⟨rfl,rfl,rfl,by decide +kernel,rfl,by decide +kernel,by decide +kernel⟩
theorem scMakes:FnScope ["book", "order", "name"] ["book", "order", "name"] (defScope sMakes):=⟨rfl,rfl,rfl,by decide +kernel,rfl,by decide +kernel,by decide +kernel⟩
structure Needs (P:Program) (w:World) (K:PySem.W.Frag) (mg:Str→Option Value) (base:Heap):Prop where
  bk:Cal P w K mg base 3 "need_book" ["thing"] spNeedBook
  od:Cal P w K mg base 3 "need_order" ["thing"] spNeedOrder
  nm:Cal P w K mg base 2 "need_name" ["thing"] spNeedName
  rows:Cal P w K mg base 3 "counted_rows" ["book", "order"] spRows
def spShare (K:PySem.W.Frag):Sp:=fun vs H Q _=>∃ (a:Addr) (bk:List S) (o:Nat) (nm:S),vs = [.ref a,.int o,sv nm]∧H a = some (.tup (bkV bk))∧Fit bk o nm ∧
  ∀ v H',Same H H'→FrA K H' v (shareOf (pairsB o bk) o nm)→Q v H'
theorem ok_share {f:Addr} {fd:FuncData} (F:Fun K "share" "share" sShare f fd) (N:Needs P w K mg base) (cSh:Cal P w K mg base 5 "share_by_rows" ["rows", "order", "name"] (spShareR K)) :
    FnOk P w K mg base CX0 6 f fd ["book", "order", "name"] (spShare K):=by
  refine F.ok scShare (fun vs H Q E h=>?_) (fun cdv A outer s H vs Q E hr h=>?_)
  · obtain ⟨d,ps,o,nm,rfl,_⟩:=h; rfl
  · obtain ⟨a,bk,o,nm,rfl,ha,hb,k⟩:=h
    have hr3:=hr.mono (j:=3) (by decide)
    have hr2:=hr.mono (j:=2) (by decide)
    refine ⟨_,pss_cons (ps_expr (pe_cal N.bk hr3 rfl (pa_cons (pv 0) pa_nil))) (pss_cons (ps_expr (pe_cal N.od hr3 rfl (pa_cons (pv 1) pa_nil))) (pss_cons (ps_expr (pe_cal N.nm hr2 rfl (pa_cons (pv 2) pa_nil)))
      (pss_one (ps_ret (pe_cal cSh hr rfl (pa_cons (pe_cal N.rows hr3 rfl (pa_cons (pv 0) (pa_cons (pv 1) pa_nil))) (pa_cons (pv 1) (pa_cons (pv 2) pa_nil)))))))),?_⟩
    refine ⟨_,rfl,a,bk,rfl,ha,hb.toisBk,fun H1 s1=>?_⟩
    refine ⟨_,rfl,o,rfl,hb.o1,hb.o3,?_⟩
    refine ⟨_,rfl,nm,rfl,hb.nmn,fun H2 s2=>?_⟩
    have s12:=s1.trans s2
    have pl:=pairs_len hb.toBk
    refine ⟨_,rfl,_,rfl,a,bk,o,rfl,s12 _ _ ha,hb.hi,hb.toBk.l8,hb.o1,fun d H3 s3 hd R=>?_⟩
    exact ⟨_,rfl,_,rfl,d,_,o,nm,rfl,R,pl.1,pl.2,hb.pw,hb.o1,(by have:=hb.nmn.2.1; omega),fun v H4 s4 fr=>k v H4 ((s12.trans s3).trans s4) fr⟩
def spMakes:Sp:=fun vs H Q _=>∃ (a:Addr) (bk:List S) (o:Nat) (nm:S),vs = [.ref a,.int o,sv nm]∧H a = some (.tup (bkV bk))∧Fit bk o nm ∧
  ∀ H',Same H H'→Q (.bl (decide (0 < (shareOf (pairsB o bk) o nm).1))) H'
theorem ok_makes {f:Addr} {fd:FuncData} (F:Fun K "makes" "makes" sMakes f fd) (C:Cst2 K mg) (cSh:Cal P w K mg base 6 "share" ["book", "order", "name"] (spShare K)) (cL:Cal P w K mg base 1 "is_less" ["one", "other"] (spLess K)) :
    FnOk P w K mg base CX0 7 f fd ["book", "order", "name"] spMakes:=by
  obtain ⟨aN,hN,tN⟩:=C.nought
  refine F.ok scMakes (fun vs H Q E h=>?_) (fun cdv A outer s H vs Q E hr h=>?_)
  · obtain ⟨d,ps,o,nm,rfl,_⟩:=h; rfl
  · obtain ⟨a,bk,o,nm,rfl,ha,hb,k⟩:=h
    have hr1:=hr.mono (j:=1) (by decide)
    refine ⟨_,pss_one (ps_ret (pe_cal cL hr1 rfl (pa_cons (pe_glob (v:=.ref aN) (by rfl) hN rfl) (pa_cons (pe_cal cSh hr rfl (pa_cons (pv 0) (pa_cons (pv 1) (pa_cons (pv 2) pa_nil)))) pa_nil)))),?_⟩
    refine ⟨_,rfl,_,rfl,_,rfl,a,bk,o,nm,rfl,ha,hb,fun v H1 s1 fr=>?_⟩
    refine ⟨_,v,(0,1),_,rfl,⟨aN,rfl,tN _⟩,fr,⟨fq01,by decide,by decide⟩,share_sm (pairs_len hb.toBk).1 hb.pw,?_⟩
    rw [lss_zero]
    exact k H1 s1
end
end Kn
end
section
set_option Elab.async false
set_option linter.all false
set_option maxRecDepth 100000
set_option maxHeartbeats 1000000
namespace Kn
open PySem L2
section
variable {P:Program} {w:World} {K:PySem.W.Frag} {mg:Str→Option Value} {base:Heap}
end
end Kn
end
section
set_option Elab.async false
set_option linter.all false
set_option maxRecDepth 100000
set_option maxHeartbeats 1000000
namespace Kn
open PySem L2
theorem tx_eta (x:Str):tx x.cps.toList = x:=by
  apply MyS.Str_ext
  simp [tx]
theorem strs_eta (l:List Str):(l.map fun x=>x.cps.toList).map tx = l:=by
  rw [List.map_map]
  conv=>rhs; rw [← List.map_id l]
  apply List.map_congr_left
  intro x _
  exact tx_eta x
def intOf:V→Int
  | .int i=>i
  | _=>0
theorem perm_row {out:List (Str × V)} {row:List (S × Int)} (h:out.Perm (row.map fun q=>(tx q.1,V.int q.2))):∃ rs:List (S × Int),rs.Perm row∧out = rs.map fun q=>(tx q.1,V.int q.2):=by
  refine ⟨out.map fun p=>(p.1.cps.toList,intOf p.2),?_,?_⟩
  · have:=h.map fun p:Str × V=>(p.1.cps.toList,intOf p.2)
    rw [List.map_map] at this
    have e:(row.map ((fun p:Str × V=>(p.1.cps.toList,intOf p.2)) ∘ fun q=>(tx q.1,V.int q.2))) = row:=by
      conv=>rhs; rw [← List.map_id row]
      apply List.map_congr_left
      rintro ⟨a,b⟩ _
      show ((tx a).cps.toList,b) = (a,b)
      rw [tx_cps]
    rw [e] at this
    exact this
  · rw [List.map_map]
    conv=>lhs; rw [← List.map_id out]
    apply List.map_congr_left
    rintro ⟨a,b⟩ hm
    obtain ⟨q,_,e⟩:=List.mem_map.mp (h.mem_iff.mp hm)
    have e1:tx q.1 = a:=(Prod.mk.inj e).1
    have e2:V.int q.2 = b:=(Prod.mk.inj e).2
    subst e2
    show (a,V.int q.2) = (tx a.cps.toList,V.int (intOf (V.int q.2)))
    rw [tx_eta]; rfl
def cellD (q:S × Int):PyData:=.tuple [.str (tx q.1),.int q.2]
def tbD (r:S × List (S × Int)):PyData:=.tuple [.str (tx r.1),.tuple (r.2.map cellD)]
section
variable {P:Program} {w:World} {K:PySem.W.Frag} {mg:Str→Option Value} {base:Heap}
theorem reps_cells {H:Hp}:∀ (rs:List (S × Int)) (ts:List V),ts.length = rs.length→(∀ (i:Nat) (q:S × Int),rs[i]? = some q→∃ a,ts[i]? = some (.ref a)∧H a = some (.tup [sv q.1,.int q.2]))→Reps K H (rs.map cellD) ts
  | [],ts,hl,_=>by
    have:ts = []:=by simpa using hl
    rw [this]; exact rfl
  | q :: rs,ts,hl,h=>by
    obtain ⟨a,e,ha⟩:=h 0 q rfl
    cases ts with
    | nil=>simp at e
    | cons t ts =>
      have e':t = .ref a:=by simpa using e
      subst e'
      refine ⟨_,_,rfl,⟨a,_,rfl,.of ha,_,_,rfl,rfl,_,_,rfl,rfl,rfl⟩,reps_cells rs ts (by simpa using hl) fun i q' hq=>?_⟩
      obtain ⟨b,e2,hb⟩:=h (i + 1) q' (by simpa using hq)
      exact ⟨b,by simpa using e2,hb⟩
theorem pe_bm0K {X:Cx} (K':PySem.W.Frag) (hK:X.K = K') {o:Expr} {to:TE} {name:Str} {apos cpos:Pos} {T id:String} {r:V→List V→Hp→VK→Prop} (pa:PlainAttrs T) (slot:Slot T name id) (hty:typeOf (.builtin id) = pure (.type "method_descriptor")) (hm:MtR X id r) (ho:PE X o to)
    (hbase:attributeBase o name X.env (eval o X.env) = eval o X.env:=by rfl) (hline:(apos.endLine == cpos.line) = true:=by rfl):PE X (.Call (.Attribute o name apos) [] [] cpos) (tBM0 K' T r to):=by
  subst hK
  exact pe_bm0 pa slot hty hm ho hbase hline
theorem call_tuple_ofK {X:Cx} (K':PySem.W.Frag) (hK:X.K = K'):CallR X (.type "tuple") (fun xs H Q=>∃ p ys,xs = [.ref p]∧((SqL K' H p ys∧∀ l,H l = none→Q (.ref l) (upd H l (.tup ys)))∨(SqT K' H p ys∧Q (.ref p) H))):=by
  subst hK
  exact call_tuple_of
def spTable (K:PySem.W.Frag):Sp:=fun vs H Q _=>∃ (a:Addr) (bk:List S) (o:Nat),vs = [.ref a,.int o]∧H a = some (.tup (bkV bk))∧Bk bk o∧(pairsB o bk).length < 64 ∧
  ∀ tb l xs H',IsTable (pairsB o bk) tb→Same H H'→H l = none→H' l = some (.lst xs)→Reps K H' (tb.map tbD) xs→Q (.ref l) H'
abbrev sTable:Stmt:=top 22
theorem scTable:FnScope ["book", "order", "rows"] ["book", "order"] (defScope sTable):=⟨rfl,rfl,rfl,by decide +kernel,rfl,by decide +kernel,by decide +kernel⟩
theorem nd4:(["rows", "end"]:List Str).Nodup:=by decide +kernel
theorem ok_table {f:Addr} {fd:FuncData} (F:Fun K "table" "table" sTable f fd) (B:Blt mg) (N:Needs P w K mg base):FnOk P w K mg base CX0 4 f fd ["book", "order"] (spTable K):=by
  refine F.ok scTable (fun vs H Q E h=>?_) (fun cdv A outer s H vs Q E hr h=>?_)
  · obtain ⟨a,bk,o,rfl,_⟩:=h; rfl
  · obtain ⟨a,bk,o,rfl,ha,hb,h64,k⟩:=h
    have hu:=hu_of hr
    have hr2:=hr.mono (j:=2) (by decide)
    have nd:=scTable.nd
    refine ⟨_,pss_cons (ps_expr (pe_cal N.bk hr rfl (pa_cons (pv 0) pa_nil))) (pss_cons (ps_expr (pe_cal N.od hr rfl (pa_cons (pv 1) pa_nil)))
      (pss_cons (ps_set (i:=2) nd rfl (Or.inr rfl) (pe_cal N.rows hr rfl (pa_cons (pv 0) (pa_cons (pv 1) pa_nil))))
      (pss_one (ps_ret (pe_comp (N:=["rows", "end"]) (caps:=[2]) rfl (compScope_of (by kernel_rfl))
        (pi_list (pe_callB (call_sortedD rfl) (by rfl) B.sorted PyProof.Rows.boot_sorted (pa_cons (pv 2) pa_nil)))
        (fun cl C s H ex=>pg_name (i:=1) nd4 rfl (Or.inl rfl))
        (fun cl C s H ex=>pf_nil)
        (fun cl C s H ex=>pe_tup (pa_cons (pv 1) (pa_cons (pe_callTy (call_tuple_ofK K rfl) (by rfl) B.tuple PyProof.Rows.boot_tuple (pa_cons (pe_callB (call_sortedItems rfl) (by rfl) B.sorted PyProof.Rows.boot_sorted
          (pa_cons (pe_bm0K K rfl PySem.F.plainAttrs_dict PySem.F.slot_dict_items PySem.F.type_dict_items mt_items (pe_dget hu (pv 0) (pv 1) (fun _ _=>rfl))) pa_nil)) pa_nil)) pa_nil)))))))),?_⟩
    refine ⟨_,rfl,a,bk,rfl,ha,hb.toisBk,fun H1 s1=>?_⟩
    refine ⟨_,rfl,o,rfl,hb.o1,hb.o3,?_⟩
    refine ⟨_,rfl,_,rfl,a,bk,o,rfl,s1 _ _ ha,hb.hi,hb.l8,hb.o1,fun d H3 s3 hd R=>?_⟩
    obtain ⟨ra,hra,htop,hrow⟩:=id R
    have ndk:(ra.map (·.1)).Nodup:=by
      have h:=(rows_ok (pairsB o bk)).nd
      rw [← hra,List.map_map] at h
      exact h
    have hlen:ra.length < 64:=by
      have h1:=(rows_len (pairsB o bk)).1
      rw [← hra,List.length_map] at h1
      omega
    have ekeys:((ra.map fun p=>(tx p.1,V.ref p.2.1)).map (·.1)) = (ra.map (·.1)).map tx:=by rw [List.map_map,List.map_map]; rfl
    have ndt:((ra.map fun p=>(tx p.1,V.ref p.2.1)).map (·.1)).Nodup:=by
      rw [ekeys]
      exact List.Pairwise.map tx (fun a b hab z=>hab (tx_inj z)) ndk
    refine ⟨_,rfl,d,ra.map (fun p:S × Addr × List (S × Int)=>(tx p.1,V.ref p.2.1)),rfl,htop,ndt,by rw [List.length_map]; exact hlen,fun out l hperm hsrt hl=>?_⟩
    rw [ekeys] at hperm
    have hperm2:(out.map fun x=>x.cps.toList).Perm (ra.map (·.1)):=by
      have:=hperm.map fun x:Str=>x.cps.toList
      rw [List.map_map] at this
      have e:(ra.map (·.1)).map ((fun x:Str=>x.cps.toList) ∘ tx) = ra.map (·.1):=by
        conv=>rhs; rw [← List.map_id (ra.map (·.1))]
        apply List.map_congr_left
        intro x _
        exact tx_cps x
      rw [e] at this
      exact this
    have hsrt2:(out.map fun x=>x.cps.toList).Pairwise (· < ·):=List.pairwise_map.mpr hsrt
    have eout:out = (out.map fun x=>x.cps.toList).map tx:=(strs_eta out).symm
    generalize (out.map fun x=>x.cps.toList) = os at hperm2 hsrt2 eout
    subst eout
    have sl:Same H3 (upd H3 l (.lst ((os.map tx).map V.str))):=Same.upd1 hl
    have hol:os.length = ra.length:=by have:=hperm2.length_eq; rw [List.length_map] at this; exact this
    refine ⟨l,rfl,⟨_,.of upd_same⟩,?_⟩
    refine comp_known0 (known_list K l _) [some (.ref d)] 1 (by rw [List.length_map,List.length_map]; omega) (fun i acc H'=>Same (upd H3 l (.lst ((os.map tx).map V.str))) H'∧acc.length = i∧∃ tb:List (S × List (S × Int)),tb.map (·.1) = os.take i∧(∀ r∈tb,IsRow (pairsB o bk) r.1 r.2)∧Reps K H' (tb.map tbD) acc)
      ⟨Same.refl _,rfl,[],rfl,by simp,rfl⟩ (fun i acc H' _ h=>⟨.of (h.1 _ _ upd_same),Nat.le_of_eq h.2.1⟩) ?_ ?_
    · rintro i x acc H' ys Nx hN hx hy ⟨sm,hal,tb,htb,hir,rp⟩
      obtain ⟨y,rfl⟩:=ys1 hy
      rw [List.getElem?_map,List.getElem?_map] at hx
      cases ep:os[i]? with
      | none=>rw [ep] at hx; cases hx
      | some e =>
      rw [ep] at hx
      have hx2:x = sv e:=(Option.some.inj hx).symm
      subst hx2
      have hi:i < os.length:=(List.getElem?_eq_some_iff.mp ep).1
      have hei:os[i] = e:=(List.getElem?_eq_some_iff.mp ep).2
      have hmem:e∈ra.map (·.1):=hperm2.mem_iff.mp (List.mem_of_getElem? ep)
      obtain ⟨r0,hr0,er0⟩:=List.mem_map.mp hmem
      have g:getA ra e = some r0.2:=(getA_mem ndk e r0.2).mp (by rw [← er0]; exact hr0)
      have smd:=sl.trans sm
      have hd':=smd _ _ htop
      have hrow':=smd _ _ (hrow r0 hr0)
      have erow:r0.2.2 = rowOf (pairsB o bk) e:=by
        unfold rowOf
        have e2:getA (rowsOf (pairsB o bk)) e = (getA ra e).map (·.2):=by
          rw [← hra]
          exact getA_map (fun v:Addr × List (S × Int)=>v.2) ra e
        rw [e2,g]; rfl
      have hrl:r0.2.2.length < 64:=by
        have h1:=(rows_len (pairsB o bk)).2 (r0.1,r0.2.2) (by rw [← hra]; exact List.mem_map.mpr ⟨r0,hr0,rfl⟩)
        have h1':r0.2.2.length≤(pairsB o bk).length:=h1
        omega
      refine ⟨_,rfl,_,rfl,_,rfl,d,.ref r0.2.1,rfl,?_,?_⟩
      · have:=DGet.k (k:=Sum.inr (tx e)) hd'
        rw [val_enc,g] at this
        exact this
      refine ⟨.inr (.inr (.inl ⟨rfl,.inl ⟨_,hrow'⟩⟩)),r0.2.1,_,rfl,rfl,hrow',fun p hp=>?_⟩
      have s5:Same H' (upd H' p (VW p r0.2.1)):=Same.upd1 hp
      refine ⟨p,r0.2.1,r0.2.2.map (fun q:S × Int=>(tx q.1,V.int q.2)),rfl,upd_same,s5 _ _ hrow',?_,by rw [List.length_map]; exact hrl,fun out2 l2 ts H6 hp6 hs6 s6 hl6 hn6 hlt6 hel=>?_⟩
      · have:((r0.2.2.map fun q=>(tx q.1,V.int q.2)).map (·.1)) = (r0.2.2.map (·.1)).map tx:=by rw [List.map_map,List.map_map]; rfl
        rw [this,erow]
        exact List.Pairwise.map tx (fun a b hab z=>hab (tx_inj z)) (rowOf_nd _ _)
      obtain ⟨rs,hrs,rfl⟩:=perm_row hp6
      refine ⟨l2,ts,rfl,.inl ⟨.of hl6,fun l7 hl7=>?_⟩⟩
      refine ⟨by show 2≤sizeLine; decide,fun pp hpp=>hN _ _ [some (sv e)] rfl ⟨?_,by rw [List.length_append,hal]; rfl,tb ++ [(e,rs)],?_,?_,?_⟩⟩
      · exact (((sm.trans s5).trans s6).trans (Same.upd1 hl7)).trans (Same.upd1 hpp)
      · rw [List.map_append,htb,List.take_succ_eq_append_getElem hi,hei]; rfl
      · intro r hr
        rcases List.mem_append.mp hr with z | z
        · exact hir r z
        · have:r = (e,rs):=by simpa using z
          subst this
          refine IsRow.of (rows_ok (pairsB o bk)) ?_ ?_
          · have:=List.pairwise_map.mp hs6
            refine this.imp fun {a b} hab=>?_
            have h':(tx a.1).cps.toList < (tx b.1).cps.toList:=hab
            rw [tx_cps,tx_cps] at h'
            exact h'
          · show rs.Perm (rowOf (pairsB o bk) e)
            rw [← erow]; exact hrs
      · have s8:Same (upd H6 l7 (.tup ts)) (upd (upd H6 l7 (.tup ts)) pp (.tup [sv e,.ref l7])):=Same.upd1 hpp
        have s7:Same H6 (upd H6 l7 (.tup ts)):=Same.upd1 hl7
        rw [List.map_append]
        refine Reps.append (Reps.same (((s5.trans s6).trans s7).trans s8) _ _ rp) (Reps.one ⟨pp,_,rfl,.of upd_same,_,_,rfl,rfl,_,_,rfl,⟨l7,ts,rfl,.of (s8 _ _ upd_same),?_⟩,rfl⟩)
        refine reps_cells rs ts (by rw [hlt6,List.length_map]) fun j q hq=>?_
        obtain ⟨a',e1,_,e2⟩:=hel j (tx q.1,V.int q.2) (by rw [List.getElem?_map,hq]; rfl)
        exact ⟨a',e1,s8 _ _ (s7 _ _ e2)⟩
    · rintro acc H' ⟨sm,hal,tb,htb,hir,rp⟩ D hD
      have smd:=(s1.trans s3).trans (sl.trans sm)
      have e1:os.take ((os.map tx).map V.str).length = os:=by rw [List.length_map,List.length_map,List.take_length]
      rw [e1] at htb
      refine k tb D acc _ ⟨?_,fun e=>?_,fun e xs hm=>hir _ hm⟩ (smd.upd_new (smd.free hD)) (smd.free hD) upd_same (Reps.same (Same.upd1 hD) _ _ rp)
      · unfold Ris
        rw [← htb] at hsrt2
        exact List.pairwise_map.mp hsrt2
      · rw [← (rows_ok (pairsB o bk)).has e]
        constructor
        · rintro ⟨xs,hm⟩
          have:e∈os:=by rw [← htb]; exact List.mem_map_of_mem (f:=(·.1)) hm
          have hk:=hperm2.mem_iff.mp this
          cases g:getA (rowsOf (pairsB o bk)) e with
          | some row=>exact ⟨row,rfl⟩
          | none =>
            have:=getA_none.mp g
            rw [← hra,List.map_map] at this
            exact absurd hk this
        · rintro ⟨row,hg⟩
          have hk:e∈ra.map (·.1):=by
            have:e∈(rowsOf (pairsB o bk)).map (·.1):=List.mem_map_of_mem (f:=(·.1)) ((getA_mem (rows_ok (pairsB o bk)).nd e row).mpr hg)
            rw [← hra,List.map_map] at this
            exact this
          have:e∈os:=hperm2.mem_iff.mpr hk
          rw [← htb] at this
          obtain ⟨r,hr,er⟩:=List.mem_map.mp this
          exact ⟨r.2,by rw [← er]; exact hr⟩
end
end Kn
end
section
set_option Elab.async false
set_option linter.all false
set_option maxRecDepth 100000
set_option maxHeartbeats 1000000
namespace Kn
open PySem L2
section
variable {P:Program} {w:World} {K:PySem.W.Frag} {mg:Str→Option Value} {base:Heap}
theorem reps_ints {H:Hp}:∀ ns:List Int,Reps K H (ns.map PyData.int) (ns.map V.int)
  | []=>rfl
  | n :: ns=>⟨_,_,rfl,rfl,reps_ints ns⟩
theorem lay_ints:∀ ns:List Int,PyData.canLayAll0 (ns.map PyData.int) = true
  | []=>rfl
  | n :: ns=>by rw [List.map_cons]; simp only [PyData.canLayAll0,PyData.canLay0,lay_ints ns,Bool.and_self]
def spCell (K:PySem.W.Frag):Sp:=fun vs H Q _=>∃ (a:Addr) (ns:List Int) (k:Nat),vs = [.ref a,.int k]∧SqL K H a (ns.map V.int)∧ns.length≤63∧∀ (i:Int) H',Same H H'→Q (.int i) H'
abbrev sCell:Stmt:=top 58
theorem scCell:FnScope ["_law_script", "_law_k"] ["_law_script", "_law_k"] (defScope sCell):=⟨rfl,rfl,rfl,by decide +kernel,rfl,by decide +kernel,by decide +kernel⟩
theorem shaped_ints (ns:List Int):SeqAt.shaped (.list (ns.map PyData.int)) = true:=by
  unfold SeqAt.shaped
  have h1:(PyData.list (ns.map PyData.int)).canLay0 = true:=by simp only [PyData.canLay0]; exact lay_ints ns
  have h2:(PyData.list (ns.map PyData.int)).depth≤64:=by
    have go:∀ ns:List Int,PyData.depthAll (ns.map PyData.int)≤1:=by
      intro ns
      induction ns with
      | nil=>decide
      | cons n ns ih=>rw [List.map_cons]; simp only [PyData.depthAll,PyData.depth]; omega
    have:=go ns
    simp only [PyData.depth]; omega
  rw [h1,decide_eq_true h2]; rfl
theorem ok_cell {f:Addr} {fd:FuncData} (F:Fun K "_law_cell" "_law_cell" sCell f fd) (B:Blt mg):FnOk P w K mg base CX0 1 f fd ["_law_script", "_law_k"] (spCell K):=by
  refine F.ok scCell (fun vs H Q E h=>?_) (fun cdv A outer s H vs Q E hr h=>?_)
  · obtain ⟨a,ns,k,rfl,_⟩:=h; rfl
  · obtain ⟨a,ns,n,rfl,ha,hl,k⟩:=h
    have hu:=hr.units
    refine ⟨_,pss_cons (ps_if (pt_cmpR (op_eqD hu) (pv 0) (pe_lst pa_nil) (nomark _)) (pss_one (ps_ret (pe_op op_mul pe_int (pv 1)))) pss_nil)
      (pss_one (ps_ret (pe_op op_add (pe_ix ix_list (pv 0) (pe_op op_mod (pv 1) (pe_callB call_len_seq (by rfl) B.len PySem.boot_len (pa_cons (pv 0) pa_nil))) (fun _ _=>rfl))
        (pe_op op_mul pe_int (pe_op op_fdiv (pv 1) (pe_callB call_len_seq (by rfl) B.len PySem.boot_len (pa_cons (pv 0) pa_nil))))))),?_⟩
    refine ⟨_,rfl,by show 0≤sizeLine; decide,fun p hp=>?_⟩
    have s1:Same H (upd H p (.lst [])):=Same.upd1 hp
    refine ⟨.list (ns.map PyData.int),.list [],⟨a,_,rfl,s1.seq ha,reps_ints ns⟩,⟨p,[],rfl,.of upd_same,rfl⟩,shaped_ints ns,rfl,_,rfl,?_⟩
    cases ns with
    | nil=>exact iteT ⟨_,rfl,7,n,rfl,rfl,.inl ⟨by decide,by decide⟩,k _ _ s1⟩
    | cons m ns =>
      refine iteF ?_
      have hlen:((m :: ns).map V.int).length = ns.length + 1:=by simp
      have hll:ns.length + 1≤63:=by simpa using hl
      have hm:((n:Int) % (((m :: ns).map V.int).length:Int)) = ((n % (ns.length + 1):Nat):Int):=by rw [hlen]; rfl
      have hlt:n % (ns.length + 1) < ((m :: ns).map V.int).length:=by rw [hlen]; exact Nat.mod_lt _ (Nat.succ_pos _)
      refine ⟨_,rfl,_,rfl,_,rfl,a,_,rfl,.inl (s1.seq ha),_,_,rfl,rfl,by rw [hlen]; omega,?_⟩
      refine ⟨a,_,_,.int ((m :: ns)[n % (ns.length + 1)]'(by simpa using hlt)),rfl,rfl,s1.seq ha,?_,?_⟩
      · rw [hm]
        refine atI_nat ?_
        rw [List.getElem?_map,List.getElem?_eq_getElem (by simpa using hlt)]; rfl
      · exact ⟨_,rfl,_,rfl,a,_,rfl,.inl (s1.seq ha),_,_,rfl,rfl,⟨by rw [hlen]; omega,by rw [hlen]; omega⟩,_,_,rfl,rfl,.inl ⟨by decide,by decide⟩,_,_,rfl,rfl,k _ _ s1⟩
theorem lt0 {d:Int} (h:0 < d):0 < d:=h
theorem cmE {t d q:Int} (h:0 < d) (h2:d < 18446744073709551616):CMul (t % d) q:=by
  have h1:=Int.emod_nonneg t (show d≠0 by omega)
  have h3:=Int.emod_lt_of_pos t h
  exact .inl ⟨by omega,by omega⟩
def spDrawn (K:PySem.W.Frag):Sp:=fun vs H Q _=>∃ (a:Addr) (ns:List Int) (k m:Nat),vs = [.ref a,.int k,.int m]∧SqL K H a (ns.map V.int)∧ns.length≤63∧1≤m∧m < 1000∧∀ (i:Nat) H',i < m→Same H H'→Q (.int i) H'
abbrev sDrawn:Stmt:=top 59
theorem scDrawn:FnScope ["_law_script", "_law_k", "_law_many", "_law_cell_here"] ["_law_script", "_law_k", "_law_many"] (defScope sDrawn):=⟨rfl,rfl,rfl,by decide +kernel,rfl,by decide +kernel,by decide +kernel⟩
theorem ok_drawn {f:Addr} {fd:FuncData} (F:Fun K "_law_drawn" "_law_drawn" sDrawn f fd) (c1:Cal P w K mg base 1 "_law_cell" ["_law_script", "_law_k"] (spCell K)):FnOk P w K mg base CX0 2 f fd ["_law_script", "_law_k", "_law_many"] (spDrawn K):=by
  refine F.ok scDrawn (fun vs H Q E h=>?_) (fun cdv A outer s H vs Q E hr h=>?_)
  · obtain ⟨a,ns,k,m,rfl,_⟩:=h; rfl
  · obtain ⟨a,ns,n,m,rfl,ha,hl,hm1,hm2,k⟩:=h
    have nd:=scDrawn.nd
    refine ⟨_,pss_cons (ps_set (i:=3) nd rfl (Or.inl rfl) (pe_op op_mod (pe_op op_add (pe_op op_mul (pe_op op_mod (pe_cal c1 hr rfl (pa_cons (pv 0) (pa_cons (pv 1) pa_nil))) pe_int) pe_int) (pe_op op_mul pe_int (pe_op op_add (pv 1) pe_int))) pe_int))
      (pss_cons (ps_set (i:=3) nd rfl (Or.inl rfl) (pe_op op_mod (pe_op op_add (pe_op op_mul (pv 3) (pv 3)) (pe_op op_fdiv (pv 3) pe_int)) pe_int))
      (pss_one (ps_ret (pe_op op_mod (pe_op op_fdiv (pe_op op_mod (pe_op op_add (pe_op op_mul (pv 3) (pv 3)) (pe_op op_fdiv (pv 3) pe_int)) pe_int) pe_int) (pv 2))))),?_⟩
    refine ⟨_,rfl,_,rfl,a,ns,n,rfl,ha,hl,fun i H' s1=>?_⟩
    have fin:∀ z:Int,Q (.int (z % (m:Int))) H':=fun z=>by
      have z1:0≤z % (m:Int):=Int.emod_nonneg _ (by omega)
      have z2:z % (m:Int) < m:=Int.emod_lt_of_pos _ (by omega)
      have e:z % (m:Int) = ((z % (m:Int)).toNat:Int):=(Int.toNat_of_nonneg z1).symm
      rw [e]
      exact k _ _ (by omega) s1
    refine ⟨_,_,rfl,rfl,lt0 (by decide),_,_,rfl,rfl,.inr ⟨by decide,by decide⟩,?_⟩
    refine ⟨_,rfl,_,_,rfl,rfl,_,_,rfl,rfl,.inl ⟨by decide,by decide⟩,_,_,rfl,rfl,_,_,rfl,rfl,lt0 (by decide),?_⟩
    refine ⟨_,rfl,_,rfl,_,_,rfl,rfl,cmE (by decide) (by decide),_,rfl,_,_,rfl,rfl,⟨by decide,by decide⟩,_,_,rfl,rfl,_,_,rfl,rfl,lt0 (by decide),?_⟩
    refine ⟨_,rfl,_,rfl,_,_,rfl,rfl,cmE (by decide) (by decide),_,rfl,_,_,rfl,rfl,⟨by decide,by decide⟩,_,_,rfl,rfl,_,_,rfl,rfl,lt0 (by decide),_,_,rfl,rfl,⟨by decide,by decide⟩,_,rfl,_,_,rfl,rfl,?_,fin _⟩
    show (0:Int) < (m:Int)
    omega
end
end Kn
end
section
set_option Elab.async false
set_option linter.all false
set_option maxRecDepth 100000
set_option maxHeartbeats 1000000
namespace Kn
open PySem L2
section
variable {P:Program} {w:World} {K:PySem.W.Frag} {mg:Str→Option Value} {base:Heap}
def spName (K:PySem.W.Frag):Sp:=fun vs H Q _=>∃ (a:Addr) (ns:List Int) (at' most:Nat),vs = [.ref a,.int at',.int most]∧SqL K H a (ns.map V.int)∧ns.length≤63∧1≤most∧most≤8 ∧
  ∀ (x:S) H',Same H H'→isNm x→(x.length≤most∧∀ c∈x,(c = 97∨c = 98∨c = 122))→Q (sv x) H'
abbrev sName:Stmt:=top 60
theorem scName:FnScope ["_law_script", "_law_at", "_law_most", "_law_size", "_law_letters"] ["_law_script", "_law_at", "_law_most"] (defScope sName):=⟨rfl,rfl,rfl,by decide +kernel,rfl,by decide +kernel,by decide +kernel⟩
theorem ndN:(["_law_letters", "_law_script", "_law_at", "_law_k"]:List Str).Nodup:=by decide +kernel
abbrev cDr (P:Program) (w:World) (K:PySem.W.Frag) (mg:Str→Option Value) (base:Heap):Prop:=Cal P w K mg base 2 "_law_drawn" ["_law_script", "_law_k", "_law_many"] (spDrawn K)
theorem ok_name {f:Addr} {fd:FuncData} (F:Fun K "_law_name" "_law_name" sName f fd) (B:Blt mg) (c1:cDr P w K mg base):FnOk P w K mg base CX0 3 f fd ["_law_script", "_law_at", "_law_most"] (spName K):=by
  refine F.ok scName (fun vs H Q E h=>?_) (fun cdv A outer s H vs Q E hr h=>?_)
  · obtain ⟨a,ns,k,m,rfl,_⟩:=h; rfl
  · obtain ⟨a,ns,n,m,rfl,ha,hl,hm1,hm2,k⟩:=h
    have nd:=scName.nd
    refine ⟨_,pss_cons (ps_set (i:=3) nd rfl (Or.inl rfl) (pe_op op_add pe_int (pe_cal c1 hr rfl (pa_cons (pv 0) (pa_cons (pv 1) (pa_cons (pv 2) pa_nil))))))
      (pss_cons (ps_set (i:=4) nd rfl (Or.inr rfl) (pe_ix ix_list (pe_lst (pa_cons pe_str (pa_cons pe_str (pa_cons pe_str pa_nil)))) (pe_cal c1 hr rfl (pa_cons (pv 0) (pa_cons (pe_op op_add (pv 1) pe_int) (pa_cons pe_int pa_nil)))) (fun _ _=>rfl)))
      (pss_one (ps_ret (pe_bm PySem.F.plainAttrs_str PySem.F.slot_str_join PySem.F.type_str_join mt_join pe_str (pa_cons
        (pe_comp (N:=["_law_letters", "_law_script", "_law_at", "_law_k"]) (caps:=[4,0,1]) rfl (compScope_of (by kernel_rfl)) (pi_range1 rfl B.range (pa_cons (pv 3) pa_nil))
          (fun cl C s H ex=>pg_name (i:=3) ndN rfl (Or.inl rfl)) (fun cl C s H ex=>pf_nil)
          (fun cl C s H ex=>pe_ix ix_str (pv 0) (pe_cal c1 hr rfl (pa_cons (pv 1) (pa_cons (pe_op op_add (pe_op op_add (pv 2) pe_int) (pv 3)) (pa_cons (pe_callB call_len_str (by rfl) B.len PySem.boot_len (pa_cons (pv 0) pa_nil)) pa_nil)))) (fun _ _=>rfl))) pa_nil))))),?_⟩
    refine ⟨_,rfl,_,rfl,_,rfl,a,ns,n,m,rfl,ha,hl,hm1,by omega,fun sz H1 hsz s1=>?_⟩
    refine ⟨_,_,rfl,rfl,?_⟩
    refine ⟨by show 3≤sizeLine; decide,fun p hp=>?_⟩
    have s2:Same H1 (upd H1 p (.lst [.str "ab",.str "ab",.str "abz"])):=Same.upd1 hp
    refine ⟨_,rfl,_,rfl,_,_,rfl,rfl,a,ns,n + 9,3,rfl,s2.seq (s1.seq ha),hl,by decide,by decide,fun li H3 hli s3=>?_⟩
    have s123:=(s1.trans s2).trans s3
    obtain ⟨L,hL,e⟩:∃ L:S,(L = [97,98]∨L = [97,98,122])∧([.str "ab",.str "ab",.str "abz"]:List V)[li]? = some (sv L):=by
      match li,hli with
      | 0,_=>exact ⟨[97,98],.inl rfl,rfl⟩
      | 1,_=>exact ⟨[97,98],.inl rfl,rfl⟩
      | 2,_=>exact ⟨[97,98,122],.inr rfl,rfl⟩
    refine ⟨p,_,_,sv L,rfl,rfl,.of (s3 _ _ upd_same),atI_nat e,?_⟩
    refine ⟨rfl,_,rfl,_,rfl,by omega,by omega,?_⟩
    have hLl:L.length = 2∨L.length = 3:=by rcases hL with h | h <;> subst h <;> simp
    have hLc:∀ c∈L,(97≤c∧c≤122)∧(c = 97∨c = 98∨c = 122):=by rcases hL with h | h <;> subst h <;> decide
    have hnn:(1 + (sz:Int)).toNat = sz + 1:=by omega
    refine comp_known0 (known_range 0 _) [some (sv L),some (.ref a),some (.int n)] 1 (by rw [List.length_map,List.length_range,hnn]; omega) (fun i acc H'=>Same H3 H'∧∃ cs:S,acc = cs.map (fun c=>V.str (tx [c]))∧cs.length = i∧∀ c∈cs,(97≤c∧c≤122)∧(c = 97∨c = 98∨c = 122))
      ⟨Same.refl _,[],rfl,rfl,by simp⟩ (fun i acc H' _ h=>⟨trivial,by obtain ⟨_,cs,rfl,h,_⟩:=h; rw [List.length_map]; omega⟩) ?_ ?_
    · rintro i x acc H' ys Nx hN hx hy ⟨sm,cs,rfl,hcl,hcs⟩
      obtain ⟨y,rfl⟩:=ys1 hy
      rw [hnn] at hx
      obtain ⟨hi,rfl⟩:=range_item hx
      refine ⟨_,rfl,_,rfl,_,rfl,_,_,rfl,rfl,_,rfl,_,_,rfl,rfl,_,rfl,tx L,rfl,by rw [tx_len,sizeLine_eq]; omega,?_⟩
      rw [tx_len]
      refine ⟨a,ns,n + 1 + i,L.length,rfl,(s123.trans sm).seq ha,hl,by omega,by omega,fun j H5 hj s5=>?_⟩
      refine ⟨tx L,_,L[j],rfl,rfl,by rw [tx_len,sizeLine_eq]; omega,?_,?_⟩
      · rw [tx_cps]
        exact atI_nat (List.getElem?_eq_getElem hj)
      · refine hN _ _ [some (.int i)] rfl ⟨sm.trans s5,cs ++ [L[j]],by rw [List.map_append]; rfl,by rw [List.length_append,hcl]; rfl,fun c hc=>?_⟩
        rcases List.mem_append.mp hc with z | z
        · exact hcs c z
        · have:c = L[j]:=by simpa using z
          rw [this]
          exact hLc _ (List.getElem_mem hj)
    · rintro acc H' ⟨sm,cs,rfl,hcl,hcs⟩ D hD
      rw [List.length_map,List.length_range,hnn] at hcl
      have esum:((cs.map fun c=>tx [c]).map (·.length)).sum = cs.length:=by
        clear hcl hcs
        induction cs with
        | nil=>rfl
        | cons c cs ih=>rw [List.map_cons,List.map_cons,List.sum_cons,ih,List.length_cons,tx_len]; show 1 + _ = _; omega
      refine ⟨_,D,cs.map (fun c=>tx [c]),rfl,rfl,.of (by rw [upd_same,List.map_map]; rfl),?_,?_⟩
      · rw [esum]
        show _ + _ * 0≤_
        omega
      · have ej:Txt.join ⟨#[]⟩ (cs.map fun c=>tx [c]) = tx cs:=by
          rw [join_flat,List.map_map]
          congr 1
          clear hcl hcs esum
          congr 1
          induction cs with
          | nil=>rfl
          | cons c cs ih=>rw [List.map_cons,List.flatten_cons,ih]; rfl
        have kk:∀ Hx,Same H Hx→Q (.str (Txt.join ⟨#[]⟩ (cs.map fun c=>tx [c]))) Hx:=fun Hx sx=>by
          rw [ej]
          exact k cs Hx sx ⟨by omega,by omega,fun c hc=>(hcs c hc).1⟩ ⟨by omega,fun c hc=>(hcs c hc).2⟩
        exact kk _ ((s123.trans sm).trans (Same.upd1 hD))
end
end Kn
end
section
set_option Elab.async false
set_option linter.all false
set_option maxRecDepth 100000
set_option maxHeartbeats 1000000
namespace Kn
open PySem L2
section
variable {P:Program} {w:World} {K:PySem.W.Frag} {mg:Str→Option Value} {base:Heap}
def spBook (K:PySem.W.Frag):Sp:=fun vs H Q _=>∃ (a:Addr) (ns:List Int) (at' many most:Nat),vs = [.ref a,.int at',.int many,.int most]∧SqL K H a (ns.map V.int)∧ns.length≤63∧1≤many∧many≤8∧1≤most∧most≤8 ∧
  ∀ (p:Addr) (bk:List S) H',Same H H'→H' p = some (.tup (bkV bk))→1≤bk.length→bk.length≤many→(∀ x∈bk,isNm x∧x.length≤most∧∀ c∈x,c = 97∨c = 98∨c = 122)→Q (.ref p) H'
abbrev sBook:Stmt:=top 61
theorem scBook:FnScope ["_law_script", "_law_at", "_law_many", "_law_most", "_law_found", "_law_k"] ["_law_script", "_law_at", "_law_many", "_law_most"] (defScope sBook):=⟨rfl,rfl,rfl,by decide +kernel,rfl,by decide +kernel,by decide +kernel⟩
theorem ok_book {f:Addr} {fd:FuncData} (F:Fun K "_law_book" "_law_book" sBook f fd) (B:Blt mg) (c1:cDr P w K mg base) (c2:Cal P w K mg base 3 "_law_name" ["_law_script", "_law_at", "_law_most"] (spName K)):FnOk P w K mg base CX0 4 f fd ["_law_script", "_law_at", "_law_many", "_law_most"] (spBook K):=by
  refine F.ok scBook (fun vs H Q E h=>?_) (fun cdv A outer s H vs Q E hr h=>?_)
  · obtain ⟨a,ns,k,m,l,rfl,_⟩:=h; rfl
  · obtain ⟨a,ns,n,many,most,rfl,ha,hl,hm1,hm2,hs1,hs2,k⟩:=h
    have nd:=scBook.nd
    have hr2:=hr.mono (j:=2) (by decide)
    refine ⟨_,pss_cons (ps_set (i:=4) nd rfl (Or.inl rfl) (pe_tup pa_nil))
      (pss_cons (ps_for PassesOwn.never rfl (pi_range1 rfl B.range (pa_cons (pe_op op_add pe_int (pe_cal c1 hr2 rfl (pa_cons (pv 0) (pa_cons (pv 1) (pa_cons (pv 2) pa_nil))))) pa_nil)) (pg_name (i:=5) nd rfl (Or.inl rfl))
        (pss_one (ps_set (i:=4) nd rfl (Or.inl rfl) (pe_op (op_catT0.or op_catT) (pv 4) (pe_tup (pa_cons (pe_cal c2 hr rfl (pa_cons (pv 0) (pa_cons (pe_op op_add (pe_op op_add (pv 1) pe_int) (pe_op op_mul pe_int (pv 5))) (pa_cons (pv 3) pa_nil)))) pa_nil))))))
      (pss_one (ps_ret (pv 4)))),?_⟩
    refine ⟨by show 0≤sizeLine; decide,fun p0 hp0=>?_⟩
    have s0:Same H (upd H p0 (.tup [])):=Same.upd1 hp0
    refine ⟨_,rfl,_,rfl,_,rfl,a,ns,n,many,rfl,s0.seq ha,hl,hm1,by omega,fun sz H1 hsz s1=>?_⟩
    refine ⟨_,_,rfl,rfl,_,rfl,by omega,by omega,?_⟩
    have hnn:(1 + (sz:Int)).toNat = sz + 1:=by omega
    refine for_known (known_range 0 _) (fun i σ H2=>∃ (p:Addr) (bk:List S) (y:Option V),σ = [some (.ref a),some (.int n),some (.int many),some (.int most),some (.ref p),y]∧Same H H2∧H2 p = some (.tup (bkV bk))∧bk.length = i∧∀ x∈bk,isNm x∧x.length≤most∧∀ c∈x,c = 97∨c = 98∨c = 122)
      ⟨p0,[],_,rfl,s0.trans s1,s1 _ _ upd_same,rfl,by simp⟩ (fun _ _ _ _ _=>trivial) ?_ ?_
    · rintro i x σ H2 Nx hN hx ⟨p,bk,y,rfl,sm,hp,hbl,hbn⟩
      rw [hnn] at hx
      obtain ⟨hi,rfl⟩:=range_item hx
      refine ⟨_,rfl,_,rfl,_,rfl,_,_,rfl,rfl,_,rfl,_,_,rfl,rfl,.inl ⟨by decide,by decide⟩,_,_,rfl,rfl,_,rfl,a,ns,n + 1 + 10 * i,most,rfl,sm.seq ha,hl,hs1,hs2,fun x H3 s3 hx1 hx2=>?_⟩
      refine ⟨by show 1≤sizeLine; decide,fun q hq=>?_⟩
      have s4:Same H3 (upd H3 q (.tup [sv x])):=Same.upd1 hq
      have nx:∀ b∈bk ++ [x],isNm b∧b.length≤most∧∀ c∈b,c = 97∨c = 98∨c = 122:=fun b hb=>by
        rcases List.mem_append.mp hb with z | z
        · exact hbn b z
        · have:b = x:=by simpa using z
          rw [this]; exact ⟨hx1,hx2⟩
      cases bk with
      | nil=>exact .inl ⟨p,q,_,rfl,rfl,.of (s4 _ _ (s3 _ _ hp)),.of upd_same,hN _ _ ⟨q,[x],_,rfl,(sm.trans s3).trans s4,upd_same,by rw [← hbl]; rfl,nx⟩⟩
      | cons c cs =>
        refine .inr ⟨p,q,_,_,rfl,rfl,.of (s4 _ _ (s3 _ _ hp)),.of upd_same,by simp [bkV],?_,fun z=>by simp at z,fun _ r hr'=>hN _ _ ⟨r,(c :: cs) ++ [x],_,rfl,((sm.trans s3).trans s4).trans (Same.upd1 hr'),?_,by rw [List.length_append,hbl]; rfl,nx⟩⟩
        · have:(bkV (c :: cs)).length = i:=by rw [← hbl]; simp [bkV]
          rw [this,sizeLine_eq]
          show i + 1≤_
          omega
        · rw [upd_same]
          unfold bkV
          rw [List.map_append]; rfl
    · rintro σ H2 ⟨p,bk,y,rfl,sm,hp,hbl,hbn⟩
      rw [List.length_map,List.length_range,hnn] at hbl
      exact ⟨_,rfl,k p bk H2 sm hp (by omega) (by omega) hbn⟩
end
end Kn
end
section
set_option Elab.async false
set_option linter.all false
set_option maxRecDepth 100000
set_option maxHeartbeats 1000000
namespace Kn
open PySem L2
theorem ite_nn {c A B:Prop} [Decidable c] (hc:¬ c) (h:A):if (!decide c) = true then A else B:=by
  rw [decide_eq_false hc]; exact h
section
variable {P:Program} {w:World} {K:PySem.W.Frag} {mg:Str→Option Value} {base:Heap}
end
end Kn
end
section
set_option Elab.async false
set_option linter.all false
set_option maxRecDepth 100000
set_option maxHeartbeats 1000000
namespace Kn
open PySem L2
section
variable {X:Cx} {tg:Expr}
end
theorem tx_app (a b:S):tx a ++ tx b = tx (a ++ b):=by
  apply MyS.Str_ext
  show ((tx a).cps ++ (tx b).cps).toList = _
  simp [tx]
theorem ite_ne {d:PyData} {A B:Prop} (hd:d.canLay0 = true) (h:B):if (if true = true then !PyData.eqv d d else PyData.eqv d d) = true then A else B:=by
  rw [eqv_refl d hd]; exact h
theorem strOk_of {t:S} (h:∀ c∈t,c≤122):PyData.strOk (tx t) = true:=by
  unfold PyData.strOk
  rw [Array.all_eq_true']
  intro c hc
  have hc':c∈t:=by simpa [tx] using hc
  have:=h c hc'
  exact decide_eq_true (by omega)
theorem shaped_list {ds:List PyData} (h:∀ d∈ds,d.canLay0 = true∧d.depth≤10):SeqAt.shaped (.list ds) = true∧(PyData.list ds).canLay0 = true:=by
  have h1:PyData.canLayAll0 ds = true:=by
    induction ds with
    | nil=>rfl
    | cons d ds ih=>simp only [PyData.canLayAll0,(h d (List.mem_cons_self ..)).1,ih fun e he=>h e (List.mem_cons_of_mem _ he),Bool.and_self]
  have h2:PyData.depthAll ds≤10:=by
    clear h1
    induction ds with
    | nil=>decide
    | cons d ds ih =>
      have a:=(h d (List.mem_cons_self ..)).2
      have b:=ih (fun e he=>h e (List.mem_cons_of_mem _ he))
      simp only [PyData.depthAll]; omega
  have h3:(PyData.list ds).canLay0 = true:=by simp only [PyData.canLay0]; exact h1
  have h4:(PyData.list ds).depth≤64:=by simp only [PyData.depth]; omega
  unfold SeqAt.shaped
  rw [h3,decide_eq_true h4]; exact ⟨rfl,rfl⟩
theorem plen_le4 {bk:List S} {o:Nat} (h:∀ x∈bk,x.length≤4):(pairsB o bk).length≤5 * bk.length:=by
  have e:=pairsB_length o bk
  have go:∀ l:List S,(∀ x∈l,x.length≤4)→(l.map fun x=>(x.length:Int) + 1).sum≤5 * (l.length:Int):=by
    intro l
    induction l with
    | nil=>intro _; simp
    | cons x r ih =>
      intro hl
      have h1:=hl x (List.mem_cons_self ..)
      have h2:=ih fun y hy=>hl y (List.mem_cons_of_mem _ hy)
      rw [List.map_cons,List.sum_cons,List.length_cons]
      have:((r.length + 1:Nat):Int) = (r.length:Int) + 1:=rfl
      omega
  have:=go bk h
  omega
section
variable {K:PySem.W.Frag}
theorem rp_tb {H:Hp} {tb:List (S × List (S × Int))} {xs:List V} {i:Nat} {x:V} (rp:Reps K H (tb.map tbD) xs) (hx:xs[i]? = some x) :
    ∃ (r:S × List (S × Int)) (a ar:Addr) (ts:List V),tb[i]? = some r∧x = .ref a∧SqT K H a [sv r.1,.ref ar]∧SqT K H ar ts∧Reps K H (r.2.map cellD) ts:=by
  obtain ⟨dd,hdd,rx⟩:=rp.get hx
  rw [List.getElem?_map] at hdd
  cases ep:tb[i]? with
  | none=>rw [ep] at hdd; cases hdd
  | some r =>
  rw [ep] at hdd
  have hd2:dd = tbD r:=(Option.some.inj hdd).symm
  subst hd2
  obtain ⟨at',xs',rfl,hsq,y1,ys1',rfl,ry1,y2,ys2',rfl,⟨ar,ts,rfl,h1,h2⟩,hnil⟩:=rx
  have ey1:y1 = sv r.1:=ry1
  have en:ys2' = []:=hnil
  subst ey1 en
  exact ⟨r,at',ar,ts,rfl,rfl,hsq,h1,h2⟩
end
end Kn
end
section
set_option Elab.async false
set_option linter.all false
set_option maxRecDepth 100000
set_option maxHeartbeats 1000000
namespace L2
open PySem PySem.Spec PyProof.Rows
theorem HOk.freeze {P:Program} {w:World} {H:Hp} {h:Heap} {a:Addr} {o:Obj} {kvs:List (Key × V)} (x:HOk P w H h) (e:H a = some (.dK kvs)) (ho:h.get? a = some o):HOk P w (upd H a (.frz o (.dK kvs))) h:=fun b u eb=>by
  by_cases hb:b = a
  · subst hb; rw [upd_same] at eb; cases eb
    exact ⟨ho,x b _ e⟩
  · rw [upd_ne hb] at eb
    refine (x b u eb).stay (fun c v _ q=>q) (fun c q=>?_) fun c xs q=>?_
    · rw [upd_ne (by rintro rfl; rw [e] at q; cases q)]; exact q
    · rw [upd_ne (by rintro rfl; rw [e] at q; cases q)]; exact q
theorem is_kV {P:Program} {w:World} {k:Key} {u:Value} (h:(mixKind P w).is k u = true):RelV (kV k) u:=by
  rw [mixKind_is] at h
  rcases keyIs_shape h with ⟨i,t,rfl,rfl⟩ | ⟨x,t,rfl,rfl⟩
  · exact ⟨_,rfl⟩
  · exact ⟨_,rfl⟩
theorem paired_get {α β:Type} {F:α→β→Prop}:∀ {l₁:List α} {l₂:List β} {i:Nat} {x:α},Paired F l₁ l₂→l₁[i]? = some x→∃ y,l₂[i]? = some y∧F x y
  | [],_,i,x,_,h=>by simp at h
  | a :: l,[],i,x,p,_=>by cases p
  | a :: l,b :: m,0,x,p,h=>by
    cases p with
    | cons h1 h2=>cases h; exact ⟨b,rfl,h1⟩
  | a :: l,b :: m,i + 1,x,p,h=>by
    cases p with
    | cons h1 h2 =>
      obtain ⟨y,e1,e2⟩:=paired_get (i:=i) (x:=x) h2 (by simpa using h)
      exact ⟨y,by simpa using e1,e2⟩
def Itd (a:Addr) (o:Obj) (kvs:List (Key × V)):It where
  go:=fun i H=>H a = some (.frz o (.dK kvs))∧i < kvs.length
  yld:=fun i H x H'=>H' = H∧(kvs.map fun p=>kV p.1)[i]? = some x
  stop:=fun i H=>H a = some (.frz o (.dK kvs))∧kvs.length≤i
theorem known_dict (a:Addr) (o:Obj) (kvs:List (Key × V)):Known (Itd a o kvs) (kvs.map fun p=>kV p.1) (fun H=>H a = some (.frz o (.dK kvs))) :=
  ⟨fun i H h hi=>⟨h,by simpa using hi⟩,fun i H x H' h y=>⟨y.1,fun _=>y.2⟩,fun H h=>⟨h,by simp⟩⟩
theorem turn_dict {P:Program} {w:World} {K:PySem.W.Frag} {tg:Expr} (a it:Addr) (o:Obj) (kvs:List (Key × V)) (n ep:Nat) (hn:n = kvs.length) (hep:∃ es,o.data = .dict es ep):Turn P w K tg (Itd a o kvs) [it] it (fun i h=>h.IsKeyIter it a i n ep) where
  mem:=by simp
  obj:=fun i h st b hb=>by
    have e:b = it:=by simpa using hb
    subst e
    obtain ⟨o,e,c,d⟩:=st
    exact ⟨o,e,fun v z=>by rw [d] at z; cases z⟩
  keep:=fun i h h' st k=>st.at fun o e=>k it (by simp) o e
  item:=by
    intro X hP hw hK hc i pins s σ H E I hf st hg
    subst hP hw hK
    obtain ⟨hfz,hi⟩:=hg
    obtain ⟨z,hS,vs,rel,dd⟩:=dk_rd I.hok (.inr ⟨o,hfz⟩)
    obtain ⟨hget,_⟩:=(show s.heap.get? a = some o∧_ from I.hok a _ hfz)
    obtain ⟨ep',dat⟩:=dd.dictAt
    have epe:ep' = ep:=by
      obtain ⟨o',es,h1,_,h2,_⟩:=id dat
      obtain ⟨es',h3⟩:=hep
      rw [hget] at h1; cases h1
      rw [h2] at h3; injection h3
    subst epe
    have hlen:vs.length = n:=by rw [hn]; exact (Paired.length rel).symm
    rw [← hlen] at st
    obtain ⟨f0,f1,f2,f3,f4,f5⟩:=hf it (by simp)
    obtain ⟨q,hq⟩:∃ q,vs[i]? = some q:=⟨_,List.getElem?_eq_getElem (by omega)⟩
    obtain ⟨k,v⟩:=q
    refine wpAny_pyNext_dict_item st dat hq fun key h' hkey st' sb=>?_
    have I1:Inv X pins σ H { s with heap:=h' }:=I.turned (t':=s.toks) (fun b o hb e=>(sb.2 b hb).trans e) f0 f1 f3 f4 f5
    obtain ⟨oi,e,c,d⟩:=id st'
    rw [hlen] at st'
    obtain ⟨p,hp,e1,e2⟩:∃ p,kvs[i]? = some p∧p.1 = k∧RelV p.2 v:=by
      have hi':i < kvs.length:=hi
      obtain ⟨y,hy,hr⟩:=paired_get rel (List.getElem?_eq_getElem hi')
      rw [hq] at hy; cases hy
      exact ⟨_,List.getElem?_eq_getElem hi',hr.1,hr.2⟩
    refine ⟨key,rfl,go_of (s:={ s with heap:=h' }) e c d (by decide) ⟨kV k,H,I1,is_kV hkey,⟨rfl,?_⟩,st',fun b hb=>(hf b hb).1⟩⟩
    rw [List.getElem?_map,hp,← e1]; rfl
  done:=by
    intro X hP hw hK hc i pins s σ H E I hf st hg
    subst hP hw hK
    obtain ⟨hfz,hi⟩:=hg
    obtain ⟨z,hS,vs,rel,dd⟩:=dk_rd I.hok (.inr ⟨o,hfz⟩)
    obtain ⟨hget,_⟩:=(show s.heap.get? a = some o∧_ from I.hok a _ hfz)
    obtain ⟨ep',dat⟩:=dd.dictAt
    have epe:ep' = ep:=by
      obtain ⟨o',es,h1,_,h2,_⟩:=id dat
      obtain ⟨es',h3⟩:=hep
      rw [hget] at h1; cases h1
      rw [h2] at h3; injection h3
    subst epe
    have hlen:vs.length = n:=by rw [hn]; exact (Paired.length rel).symm
    rw [← hlen] at st
    obtain ⟨f0,f1,f2,f3,f4,f5⟩:=hf it (by simp)
    refine wpAny_pyNext_dict_end (I.ok.hd hc) st dat (by rw [List.getElem?_eq_none]; omega) fun h' he=>⟨rfl,?_⟩
    exact I.turned (t':=s.toks) (fun b o hb e=>he b o hb e) f0 f1 f3 f4 f5
  self:=fun A i s Q E st hq=>wpAny_pyIter_keyiter st hq
section
variable {X:Cx} {pins:List (Addr × Obj)} {σ:St} {H:Hp} {s:Shared} {tg:Expr}
theorem Inv.freeze {a:Addr} {o:Obj} {kvs:List (Key × V)} (I:Inv X pins σ H s) (e:H a = some (.dK kvs)) (ho:s.heap.get? a = some o):Inv X pins σ (upd H a (.frz o (.dK kvs))) s:=by
  have ne:∀ {b:Addr} {u:Option HO},H b = u→u≠some (.dK kvs)→b≠a:=fun {b u} q n z=>n (by rw [← q,z,e])
  refine ⟨I.ok,I.os,I.bare,⟨I.base.keep,I.base.slot,fun b ob q n hx=>?_,I.base.there,fun b xs q=>?_,fun b ob u q=>?_,fun b ps q=>?_⟩,I.loc,I.cell,?_,fun x c q=>?_,fun p q=>?_,I.hok.freeze e ho,I.len⟩
  · have:=I.base.free b ob q n hx
    rw [upd_ne (ne this (by simp))]; exact this
  · have:=I.base.tups b xs q
    rw [upd_ne (ne this (by simp))]; exact this
  · have:=I.base.frzs b ob u q
    rw [upd_ne (ne this (by simp))]; exact this
  · obtain ⟨m,z⟩:=I.base.tbls b ps q
    exact ⟨m,by rw [upd_ne (ne z (by simp))]; exact z⟩
  · have:=I.free
    rw [upd_ne (ne this (by simp))]; exact this
  · have:=I.freeC x c q
    rw [upd_ne (ne this (by simp))]; exact this
  · obtain ⟨a1,a2,a3⟩:=I.pin p q
    exact ⟨a1,by rw [upd_ne (ne a2 (by simp))]; exact a2,a3⟩
def iDict (tl:TE):TI:=fun σ H R=>tl σ H fun x H1=>∃ a kvs,x = .ref a∧H1 a = some (.dK kvs)∧∀ o,R (Itd a o kvs) (upd H1 a (.frz o (.dK kvs)))
theorem pi_dict {l:Expr} {tl:TE} (hl:PE X l tl):PI X tg l (iDict tl):=by
  intro pins s σ H R I h
  refine thn (hl pins s σ H _ I h) fun v s1 ⟨x,H1,I1,r1,q1⟩=>?_
  obtain ⟨a,kvs,e,hq,q⟩:=q1
  subst e
  cases r1
  obtain ⟨z,hS,vs,rel,dd⟩:=dk_of I1.hok hq
  obtain ⟨ep,dat⟩:=dd.dictAt
  obtain ⟨o,es,ho,_,hod,_⟩:=id dat
  refine wpAny_pyIter_dict hS dat ?_
  have I2:=(I1.freeze hq ho).kept (t':=s1.toks) (h':=s1.heap.push { cls:=.type "dict_keyiterator",data:=.fields #[.ref a,.int 0 0,.int vs.length 0,.int ep 0] }) fun b o e=>Heap.get?_push_of_some _ e
  refine ⟨s1.heap.objs.size,[s1.heap.objs.size],_,_,upd H1 a (.frz o (.dK kvs)),rfl,I2,turn_dict a _ o kvs vs.length ep (Paired.length rel).symm ⟨es,hod⟩,⟨_,Heap.get?_push_size _ rfl,rfl,rfl⟩,fun b hb=>?_,q o⟩
  have e:b = s1.heap.objs.size:=by simpa using hb
  subst e
  exact (I1.freeze hq ho).fpOk (Nat.le_refl _) ((I1.freeze hq ho).hok.fresh (Nat.le_refl _))
theorem HOk.thaw {P:Program} {w:World} {H:Hp} {h:Heap} {a:Addr} {o:Obj} {kvs:List (Key × V)} (x:HOk P w H h) (e:H a = some (.frz o (.dK kvs))):HOk P w (upd H a (.dK kvs)) h:=fun b u eb=>by
  by_cases hb:b = a
  · subst hb; rw [upd_same] at eb; cases eb
    exact (show h.get? b = some o∧ObjOk P w H h b (.dK kvs) from x b _ e).2
  · rw [upd_ne hb] at eb
    refine (x b u eb).stay (fun c v _ q=>q) (fun c q=>?_) fun c xs q=>?_
    · rw [upd_ne (by rintro rfl; rw [e] at q; cases q)]; exact q
    · rw [upd_ne (by rintro rfl; rw [e] at q; cases q)]; exact q
theorem Inv.thaw {a:Addr} {o:Obj} {kvs:List (Key × V)} {pins':List (Addr × Obj)} {σ':St} {H':Hp} {s':Shared} (I:Inv X pins σ H s) (I0:Inv X pins' σ' H' s') (h0:H' a = some (.dK kvs)) (e:H a = some (.frz o (.dK kvs))):Inv X pins σ (upd H a (.dK kvs)) s:=by
  have ne:∀ {b:Addr} {u:Option HO},H b = u→u≠some (.frz o (.dK kvs))→b≠a:=fun {b u} q n z=>n (by rw [← q,z,e])
  refine ⟨I.ok,I.os,I.bare,⟨I.base.keep,I.base.slot,fun b ob q n hx=>?_,I.base.there,fun b xs q=>?_,fun b ob u q=>?_,fun b ps q=>?_⟩,I.loc,I.cell,?_,fun x c q=>?_,fun p q=>?_,I.hok.thaw e,I.len⟩
  · have:=I.base.free b ob q n hx
    rw [upd_ne (ne this (by simp))]; exact this
  · have:=I.base.tups b xs q
    rw [upd_ne (ne this (by simp))]; exact this
  · have:=I.base.frzs b ob u q
    rw [upd_ne (by rintro rfl; have:=I0.base.frzs _ ob u q; rw [h0] at this; cases this)]; exact this
  · obtain ⟨m,z⟩:=I.base.tbls b ps q
    exact ⟨m,by rw [upd_ne (ne z (by simp))]; exact z⟩
  · have:=I.free
    rw [upd_ne (ne this (by simp))]; exact this
  · have:=I.freeC x c q
    rw [upd_ne (ne this (by simp))]; exact this
  · obtain ⟨a1,a2,a3⟩:=I.pin p q
    exact ⟨a1,by rw [upd_ne (ne a2 (by simp))]; exact a2,a3⟩
def tThaw (t:TE):TE:=fun σ H Q=>∃ a kvs,H a = some (.dK kvs)∧t σ H fun y H'=>∃ o,H' a = some (.frz o (.dK kvs))∧Q y (upd H' a (.dK kvs))
theorem pe_thaw {e:Expr} {t:TE} (he:PE X e t):PE X e (tThaw t):=by
  intro pins s σ H Q I h
  obtain ⟨a,kvs,h0,h⟩:=h
  exact thn (he pins s σ H _ I h) fun u s1 ⟨y,H',I',r,o,hf,q⟩=>⟨y,_,I'.thaw I h0 hf,r,q⟩
end
end L2
end
section
set_option Elab.async false
set_option linter.all false
set_option maxRecDepth 100000
set_option maxHeartbeats 1000000
namespace L2
open PySem PySem.Spec PyProof.Rows
theorem entry_itemiter_iter:entryFor table "dict_itemiterator.__iter__" = some Builtin.«dict_keyiterator.__iter__» :=
  entryFor_alias (id' := "dict_keyiterator.__iter__") (by kernel_rfl) rfl (by decide +kernel) (by kernel_rfl)
def Iti (a:Addr) (o:Obj) (kvs:List (Key × V)):It where
  go:=fun i H=>H a = some (.frz o (.dK kvs))∧i < kvs.length
  yld:=fun i H x H'=>∃ T q,x = .ref T∧H T = none∧H' = upd H T (.tup [kV q.1,q.2])∧kvs[i]? = some q
  stop:=fun i H=>H a = some (.frz o (.dK kvs))∧kvs.length≤i
theorem turn_items {P:Program} {w:World} {K:PySem.W.Frag} {elts:List Expr} {k:Nat} {pos:Pos} (a it:Addr) (o:Obj) (kvs:List (Key × V)) (n ep:Nat) (hn:n = kvs.length) (hep:∃ es,o.data = .dict es ep) :
    Turn P w K (.Tuple elts k pos) (Iti a o kvs) [it] it (fun i h=>∃ ok ov,IsItemIter h it a i n ep ok ov) where
  mem:=by simp
  obj:=fun i h st b hb=>by
    have e:b = it:=by simpa using hb
    subst e
    obtain ⟨ok,ov,st⟩:=st
    exact ⟨_,st,fun v z=>by
      have z':Data.fields _ = Data.cell v:=z
      cases z'⟩
  keep:=fun i h h' st kk=>let ⟨ok,ov,st⟩:=st; ⟨ok,ov,kk it (by simp) _ st⟩
  item:=by
    intro X hP hw hK hc i pins s σ H E I hf st hg
    subst hP hw hK
    obtain ⟨hfz,hi⟩:=hg
    obtain ⟨ok,ov,st⟩:=st
    obtain ⟨z,hS,vs,rel,dd⟩:=dk_rd I.hok (.inr ⟨o,hfz⟩)
    obtain ⟨hget,_⟩:=(show s.heap.get? a = some o∧_ from I.hok a _ hfz)
    obtain ⟨ep',dat⟩:=dd.dictAt
    have epe:ep' = ep:=by
      obtain ⟨o',es,h1,_,h2,_⟩:=id dat
      obtain ⟨es',h3⟩:=hep
      rw [hget] at h1; cases h1
      rw [h2] at h3; injection h3
    subst epe
    have hlen:vs.length = n:=by rw [hn]; exact (Paired.length rel).symm
    rw [← hlen] at st
    obtain ⟨q,hq⟩:∃ q,vs[i]? = some q:=⟨_,List.getElem?_eq_getElem (by omega)⟩
    obtain ⟨k,v⟩:=q
    obtain ⟨p,hp,e1,e2⟩:∃ p,kvs[i]? = some p∧p.1 = k∧RelV p.2 v:=by
      have hi':i < kvs.length:=hi
      obtain ⟨y,hy,hr⟩:=paired_get rel (List.getElem?_eq_getElem hi')
      rw [hq] at hy; cases hy
      exact ⟨_,List.getElem?_eq_getElem hi',hr.1,hr.2⟩
    refine wpAny_pyNext_items_item st dat hq fun key h' hkey hout hT hsz hk=>?_
    refine ⟨_,rfl,wpAny_letOwnedTupleGo_items hout fun h2 he2 hs2=>?_⟩
    have hTn:s.heap.get? s.heap.objs.size = none:=by
      cases g:s.heap.get? s.heap.objs.size with
      | none=>rfl
      | some o=>exact absurd (Heap.lt_size g) (Nat.lt_irrefl _)
    have hel:it < s.heap.objs.size:=Heap.lt_size st
    have hT2:h2.get? s.heap.objs.size = some { cls:=.type "tuple",data:=.seq #[key,v] }:=(hs2.2 _ (Nat.ne_of_gt hel)).trans hT
    refine ⟨.ref s.heap.objs.size,upd H s.heap.objs.size (.tup [kV p.1,p.2]),I.turnedT (fp:=[it]) (h':=h2) (t':=s.toks) (fun b ob hb q=>?_) hf hTn ⟨by show 2≤sizeLine; decide,[key,v],.cons (by rw [e1]; exact is_kV hkey) (.cons e2 .nil),⟨_,hT2,rfl,_,rfl⟩⟩,rfl,
      ⟨_,p,rfl,I.hok.free hTn,rfl,hp⟩,⟨_,_,by rw [hlen] at he2; exact he2⟩,fun b hb=>?_⟩
    · have hbe:b≠it:=fun z=>hb (by simp [z])
      exact (hs2.2 b hbe).trans (hk b ob hbe q)
    · rw [upd_ne]
      · exact (hf b hb).1
      · rintro rfl
        have z':s.heap.objs.size = it:=by simpa using hb
        exact absurd hel (by rw [z']; exact Nat.lt_irrefl _)
  done:=by
    intro X hP hw hK hc i pins s σ H E I hf st hg
    subst hP hw hK
    obtain ⟨hfz,hi⟩:=hg
    obtain ⟨ok,ov,st⟩:=st
    obtain ⟨z,hS,vs,rel,dd⟩:=dk_rd I.hok (.inr ⟨o,hfz⟩)
    obtain ⟨hget,_⟩:=(show s.heap.get? a = some o∧_ from I.hok a _ hfz)
    obtain ⟨ep',dat⟩:=dd.dictAt
    have epe:ep' = ep:=by
      obtain ⟨o',es,h1,_,h2,_⟩:=id dat
      obtain ⟨es',h3⟩:=hep
      rw [hget] at h1; cases h1
      rw [h2] at h3; injection h3
    subst epe
    have hlen:vs.length = n:=by rw [hn]; exact (Paired.length rel).symm
    rw [← hlen] at st
    obtain ⟨f0,f1,f2,f3,f4,f5⟩:=hf it (by simp)
    refine wpAny_pyNext_items_end (I.ok.hd hc) st dat (by rw [List.getElem?_eq_none]; omega) fun h' he=>⟨rfl,?_⟩
    exact I.turned (t':=s.toks) (fun b o hb e=>he b o hb e) f0 f1 f3 f4 f5
  self:=fun A i s Q E st hq=>by
    obtain ⟨ok,ov,st⟩:=st
    have hT:s.TypeIs (.ref it) "dict_itemiterator" := ⟨_,st,rfl⟩
    refine wpAny_pyIter_slot hT F.slot_dict_itemiterator_iter (wpAny_call_entry F.slot_dict_itemiterator_iter hT entry_itemiter_iter ?_ (F.args_dict_itemiterator_iter_1 _))
    show wpAny _ _ (ret (.ref it)) _ _ s
    exact wpAny_pure ⟨_,rfl, "dict_itemiterator",_,hT,F.slot_dict_itemiterator_next.lookup,hq⟩
section
variable {X:Cx} {elts:List Expr} {kk:Nat} {tpos:Pos} {tg:Expr}
def iItems (tl:TE):TI:=fun σ H R=>tl σ H fun x H1=>∃ p a kvs,x = .ref p∧H1 p = some (VW p a)∧H1 a = some (.dK kvs)∧∀ o,R (Iti a o kvs) (upd H1 a (.frz o (.dK kvs)))
theorem pi_items {l:Expr} {tl:TE} (hl:PE X l tl):PI X (.Tuple elts kk tpos) l (iItems tl):=by
  intro pins s σ H R I h
  refine thn (hl pins s σ H _ I h) fun v s1 ⟨x,H1,I1,r1,q1⟩=>?_
  obtain ⟨p,a,kvs,e,hp,hq,q⟩:=q1
  subst e
  cases r1
  obtain ⟨z,hS,vs,rel,dd⟩:=dk_of I1.hok hq
  obtain ⟨ep,dat⟩:=dd.dictAt
  obtain ⟨o,es,ho,_,hod,_⟩:=id dat
  have hvw:s1.heap.get? p = some (vwObj a):=(I1.hok p _ hp).1
  refine wpAny_pyIter_items (v:=p) ⟨_,hvw,rfl,rfl⟩ dat ?_
  have I2:=(I1.freeze hq ho).kept (t':=s1.toks) (h':=s1.heap.push { cls:=.type "dict_itemiterator",data:=.fields #[.none,.bool false,.ref a,.int 0 0,.int vs.length 0,.int ep 0,.none,.none] }) fun b o e=>Heap.get?_push_of_some _ e
  refine ⟨s1.heap.objs.size,[s1.heap.objs.size],_,_,upd H1 a (.frz o (.dK kvs)),rfl,I2,turn_items a _ o kvs vs.length ep (Paired.length rel).symm ⟨es,hod⟩,⟨_,_,Heap.get?_push_size _ rfl⟩,fun b hb=>?_,q o⟩
  have e:b = s1.heap.objs.size:=by simpa using hb
  subst e
  exact (I1.freeze hq ho).fpOk (Nat.le_refl _) ((I1.freeze hq ho).hok.fresh (Nat.le_refl _))
theorem for_items {a:Addr} {o:Obj} {kvs:List (Key × V)} {g:TG} {tb:TS} {D:Ends} {σ:St} {H:Hp} (Pv:Nat→St→Hp→Prop) (h0:Pv 0 σ H) (hk:∀ i σ H,i≤kvs.length→Pv i σ H→H a = some (.frz o (.dK kvs)))
    (turn:∀ (i:Nat) (q:Key × V) (T:Addr) (σ:St) (H:Hp) (Nx:St→Hp→Prop),(∀ σ' H',Pv (i + 1) σ' H'→Nx σ' H')→kvs[i]? = some q→Pv i σ H→H T = none→g (.ref T) σ (upd H T (.tup [kV q.1,q.2])) fun σ2 H2=>tb { D with nx:=Nx,ct:=Nx,bk:=D.nx } σ2 H2)
    (fin:∀ σ H,Pv kvs.length σ H→D.nx σ H) :
    ∃ W:Nat→Nat→St→Hp→Prop,(∃ m,W 0 m σ H)∧∀ i m σ H,W i m σ H →
      ((Iti a o kvs).stop i H∧D.nx σ H)∨((Iti a o kvs).go i H∧∃ N:St→Hp→Prop,(∀ σ' H',N σ' H'→∃ m',m' < m∧W (i + 1) m' σ' H')∧∀ x H',(Iti a o kvs).yld i H x H'→g x σ H' fun σ2 H2=>tb { D with nx:=N,ct:=N,bk:=D.nx } σ2 H2):=by
  refine ⟨fun i m σ H=>i≤kvs.length∧m = kvs.length - i∧Pv i σ H,⟨kvs.length,Nat.zero_le _,rfl,h0⟩,?_⟩
  rintro i m σ H ⟨hi,rfl,pv⟩
  have hH:=hk i σ H hi pv
  by_cases e:i = kvs.length
  · subst e
    exact .inl ⟨⟨hH,Nat.le_refl _⟩,fin σ H pv⟩
  · have hi':i < kvs.length:=by omega
    refine .inr ⟨⟨hH,hi'⟩,Pv (i + 1),fun σ' H' p=>⟨kvs.length - (i + 1),by omega,by omega,rfl,p⟩,fun x H2 hy2=>?_⟩
    obtain ⟨T,q,rfl,hT,rfl,hy⟩:=hy2
    exact turn i q T σ H (Pv (i + 1)) (fun _ _ p=>p) hy pv hT
theorem comp_items {a:Addr} {o:Obj} {kvs:List (Key × V)} {caps:List Nat} {n:Nat} {σ:St} {g:TG} {te:TE} {F:List V→Hp→Prop} {H1:Hp} (cv:St) (k:Nat) (hn:kvs.length < 1000)
    (Pv:Nat→List V→Hp→Prop) (h0:Pv 0 [] H1) (hk:∀ i acc H,i≤kvs.length→Pv i acc H→H a = some (.frz o (.dK kvs))∧acc.length≤i)
    (turn:∀ (i:Nat) (q:Key × V) (T:Addr) (acc:List V) (H:Hp) (ys:St) (Nx:List V→St→Hp→Prop),(∀ acc' H' zs,zs.length = k→Pv (i + 1) acc' H'→Nx acc' (cv ++ zs) H')→kvs[i]? = some q→ys.length = k→Pv i acc H→H T = none →
      g (.ref T) (cv ++ ys) (upd H T (.tup [kV q.1,q.2])) fun σ2 H3=>te σ2 H3 fun y H5=>Nx (acc ++ [y]) σ2 H5)
    (fin:∀ acc H,Pv kvs.length acc H→F acc H) (hcv:capStart caps n σ = cv ++ List.replicate k none:=by rfl) :
    ∃ W:Nat→Nat→List V→St→Hp→Prop,(∃ m,W 0 m [] (capStart caps n σ) H1)∧∀ i m acc σ' H',W i m acc σ' H' →
      ((Iti a o kvs).stop i H'∧F acc H') ∨
      ((Iti a o kvs).go i H'∧acc.length < sizeLine∧∀ x H2,(Iti a o kvs).yld i H' x H2→g x σ' H2 fun σ2 H3=>tYes σ2 H3 fun b H4=>if b = true then te σ2 H4 fun y H5=>∃ m',m' < m∧W (i + 1) m' (acc ++ [y]) σ2 H5 else ∃ m',m' < m∧W (i + 1) m' acc σ2 H4):=by
  refine ⟨fun i m acc σ' H'=>i≤kvs.length∧m = kvs.length - i∧(∃ ys,ys.length = k∧σ' = cv ++ ys)∧Pv i acc H',⟨kvs.length,Nat.zero_le _,rfl,⟨_,by simp,hcv⟩,h0⟩,?_⟩
  rintro i m acc σ' H' ⟨hi,rfl,⟨ys,hy,rfl⟩,pv⟩
  obtain ⟨hH,ha⟩:=hk i acc H' hi pv
  by_cases e:i = kvs.length
  · subst e
    exact .inl ⟨⟨hH,Nat.le_refl _⟩,fin acc H' pv⟩
  · have hi':i < kvs.length:=by omega
    refine .inr ⟨⟨hH,hi'⟩,by rw [sizeLine_eq]; omega,fun x H2 hy2=>?_⟩
    obtain ⟨T,q,rfl,hT,rfl,hq⟩:=hy2
    have:=turn i q T acc H' ys (fun acc' σ2 H5=>∃ m',m' < kvs.length - i∧(i + 1≤kvs.length∧m' = kvs.length - (i + 1)∧(∃ ys,ys.length = k∧σ2 = cv ++ ys)∧Pv (i + 1) acc' H5)) (fun acc' H5 zs hz p=>⟨kvs.length - (i + 1),by omega,by omega,rfl,⟨zs,hz,rfl⟩,p⟩) hq hy pv hT
    have e:(fun (σ2:St) (H3:Hp)=>tYes σ2 H3 fun b H4=>if b = true then te σ2 H4 fun y H5=>∃ m',m' < kvs.length - i∧(i + 1≤kvs.length∧m' = kvs.length - (i + 1)∧(∃ ys,ys.length = k∧σ2 = cv ++ ys)∧Pv (i + 1) (acc ++ [y]) H5) else ∃ m',m' < kvs.length - i∧(i + 1≤kvs.length∧m' = kvs.length - (i + 1)∧(∃ ys,ys.length = k∧σ2 = cv ++ ys)∧Pv (i + 1) acc H4)) = fun σ2 H3=>te σ2 H3 fun y H5=>∃ m',m' < kvs.length - i∧(i + 1≤kvs.length∧m' = kvs.length - (i + 1)∧(∃ ys,ys.length = k∧σ2 = cv ++ ys)∧Pv (i + 1) (acc ++ [y]) H5):=by
      funext σ2 H3
      unfold tYes
      simp
    rw [e]
    exact this
def sThaw (t:TS):TS:=fun D σ H=>∃ a kvs,H a = some (.dK kvs)∧t { D with nx:=fun σ' H'=>∃ o,H' a = some (.frz o (.dK kvs))∧D.nx σ' (upd H' a (.dK kvs)) } σ H
theorem ps_thaw {st:Stmt} {t:TS} (h:PS X st t):PS X st (sThaw t):=by
  intro pins s σ H D I q
  obtain ⟨a,kvs,h0,q⟩:=q
  refine thn (h pins s σ H _ I q) fun f s1 h1=>?_
  cases f with
  | next =>
    obtain ⟨σ',H',I',o,hf,qn⟩:=h1
    exact ⟨σ',_,I'.thaw I h0 hf,qn⟩
  | brk=>exact h1
  | cont=>exact h1
  | ret u=>exact h1
theorem Same.thaw {H H':Hp} {a:Addr} {o:Obj} {kvs:List (Key × V)} (e:Same (upd H a (.frz o (.dK kvs))) H') (h:H a = some (.dK kvs)):Same H (upd H' a (.dK kvs)):=fun b u q=>by
  by_cases hb:b = a
  · subst hb; rw [upd_same,← q,h]
  · rw [upd_ne hb]; exact e b u (by rw [upd_ne hb]; exact q)
end
end L2
end
section
set_option Elab.async false
set_option linter.all false
set_option maxHeartbeats 400000
namespace Kn
theorem endOf_end (t l:S) (o:Nat):endOf (endOf t o ++ l) o = endOf (t ++ l) o:=by
  unfold endOf
  rw [List.length_append,List.length_append,List.length_drop]
  by_cases h:t.length≤o
  · rw [show t.length - o = 0 by omega,List.drop_zero,Nat.sub_zero]
  · rw [List.drop_append,List.drop_append,List.drop_drop,List.length_drop]
    congr 1
    · congr 1; omega
    · congr 1; omega
def pp (o:Nat) (t:S):List (S × S):=(List.range t.length).map fun p=>(endOf (t.take p) o,(t.drop p).take 1)
theorem pairs1_pp (o:Nat) (t:S):pairs1 o t = pp o t ++ [(endOf t o,[])]:=by
  unfold pairs1 pp
  rw [List.range_succ,List.map_append]
  simp
theorem pp_snoc (o:Nat) (t:S) (c:Nat):pp o (t ++ [c]) = pp o t ++ [(endOf t o,[c])]:=by
  unfold pp
  rw [List.length_append,List.length_singleton,List.range_succ,List.map_append]
  congr 1
  · refine List.map_congr_left fun p hp=>?_
    have hp':p < t.length:=List.mem_range.mp hp
    rw [List.take_append_of_le_length (by omega),List.drop_append_of_le_length (by omega)]
    congr 1
    have:1≤(t.drop p).length:=by rw [List.length_drop]; omega
    rw [List.take_append_of_le_length this]
  · simp
theorem pair_next {o:Nat} {nm e:S} {c:Nat} (h:(e,[c])∈pairs1 o nm):∃ l,(endOf (e ++ [c]) o,l)∈pairs1 o nm:=by
  unfold pairs1 at h
  obtain ⟨p,hp,e1⟩:=List.mem_map.mp h
  have hp':p < nm.length + 1:=List.mem_range.mp hp
  have e2:endOf (nm.take p) o = e:=congrArg Prod.fst e1
  have e3:(nm.drop p).take 1 = [c]:=congrArg Prod.snd e1
  have hl:p < nm.length:=by
    by_cases h:p < nm.length
    · exact h
    · rw [List.drop_of_length_le (by omega)] at e3; cases e3
  have e4:nm.take (p + 1) = nm.take p ++ [c]:=by
    rw [← e3,← List.take_add]
  refine ⟨(nm.drop (p + 1)).take 1,?_⟩
  rw [← e2,endOf_end,← e4]
  exact List.mem_map.mpr ⟨p + 1,List.mem_range.mpr (by omega),rfl⟩
theorem pairB_next {o:Nat} {bk:List S} {e:S} {c:Nat} (h:(e,[c])∈pairsB o bk):∃ l,(endOf (e ++ [c]) o,l)∈pairsB o bk:=by
  obtain ⟨nm,hn,hp⟩:=List.mem_flatMap.mp h
  obtain ⟨l,hl⟩:=pair_next hp
  exact ⟨l,List.mem_flatMap.mpr ⟨nm,hn,hl⟩⟩
theorem pair_one {o:Nat} {nm e l:S} (h:(e,l)∈pairs1 o nm):l.length≤1:=by
  unfold pairs1 at h
  obtain ⟨p,_,e1⟩:=List.mem_map.mp h
  have e3:(nm.drop p).take 1 = l:=congrArg Prod.snd e1
  rw [← e3,List.length_take]; omega
theorem pairB_one {o:Nat} {bk:List S} {e l:S} (h:(e,l)∈pairsB o bk):l.length≤1:=by
  obtain ⟨nm,hn,hp⟩:=List.mem_flatMap.mp h
  exact pair_one hp
theorem one_of {l:S} (h:l.length≤1) (hn:l≠[]):∃ c,l = [c]:=by
  match l,h,hn with
  | [c],_,_=>exact ⟨c,rfl⟩
theorem pair_more {o:Nat} {bk bk':List S} {q:S × S} (h:q∈pairsB o bk) (hs:∀ x∈bk,x∈bk'):q∈pairsB o bk':=by
  obtain ⟨nm,hn,hp⟩:=List.mem_flatMap.mp h
  exact List.mem_flatMap.mpr ⟨nm,hs nm hn,hp⟩
theorem foldG_nil (ps:List (S × S)):∀ (qs:List (S × S)) (w:Int × Int),Fq w→(∃ q∈qs,q ∉ ps)→qs.foldl (fun w p=>tms w (part ps p.1 p.2)) w = (0,1)
  | [],_,_,h=>by obtain ⟨q,hq,_⟩:=h; cases hq
  | p :: qs,w,hw,h=>by
    rw [List.foldl_cons]
    by_cases hp:p∈ps
    · refine foldG_nil ps qs _ (tms_fq hw (part_fq ..)) ?_
      obtain ⟨q,hq,hn⟩:=h
      rcases List.mem_cons.mp hq with e | e
      · rw [e] at hn; exact absurd hp hn
      · exact ⟨q,e,hn⟩
    · have:part ps p.1 p.2 = (0,1):=part_none hp
      rw [this,tms_zero_right hw]
      exact foldG_zero ps qs
theorem share_iff {ps:List (S × S)} {o:Nat} {x:S}:0 < (shareOf ps o x).1↔∀ q∈pairs1 o x,q∈ps:=by
  constructor
  · intro h q hq
    by_cases hp:q∈ps
    · exact hp
    · have:=foldG_nil ps (pairs1 o x) (1,1) fq11 ⟨q,hq,hp⟩
      unfold shareOf shareG at h
      rw [this] at h
      exact absurd h (by decide)
  · intro h
    exact foldG_pos _ _ _ fq11 (by decide) h
def mf (w l:S):Bool:=decide (l≠[]) && (decide (w = []) || decide (w = l))
def step1 (nx:S→List S) (o:Nat) (ts:List S) (w:S):List S:=ts.flatMap fun t=>((nx (endOf t o)).filter (mf w)).map (t ++ ·)
def Tx (nx:S→List S) (o:Nat) (pat:List S):List S:=pat.foldl (step1 nx o) [[]]
def lft (w:Int) (q:Int × Int):Int:=w * q.1 / q.2
def wstep (nx:S→List S) (f:S→S→Int × Int) (o:Nat) (L:List (S × Int)) (w:S):List (S × Int):=L.flatMap fun p=>((nx (endOf p.1 o)).filter (mf w)).map fun l=>(p.1 ++ l,lft p.2 (f (endOf p.1 o) l))
def Ws (nx:S→List S) (f:S→S→Int × Int) (o:Nat) (wt:Int) (pat:List S):List (S × Int):=pat.foldl (wstep nx f o) [([],wt)]
def addA (acc:List (S × Int)) (p:S × Int):List (S × Int):=putA acc p.1 ((getA acc p.1).getD 0 + p.2)
def agg (L:List (S × Int)):List (S × Int):=L.foldl addA []
def outs (nx:S→List S) (f:S→S→Int × Int) (o:Nat) (w:S) (p:S × Int):List (S × Int):=((nx p.1).filter (mf w)).map fun l=>(endOf (p.1 ++ l) o,lft p.2 (f p.1 l))
def sstep (nx:S→List S) (f:S→S→Int × Int) (o:Nat) (ss:List (S × Int)) (w:S):List (S × Int):=agg (ss.flatMap (outs nx f o w))
def Ss (nx:S→List S) (f:S→S→Int × Int) (o:Nat) (wt:Int) (pat:List S):List (S × Int):=pat.foldl (sstep nx f o) [([],wt)]
structure Addt (D:Int) (φ:S→Int→Int):Prop where
  zero:∀ e,φ e 0 = 0
  add:∀ e a b,D ∣ a→D ∣ b→φ e (a + b) = φ e a + φ e b
abbrev tots (φ:S→Int→Int) (L:List (S × Int)):Int:=(L.map fun p=>φ p.1 p.2).sum
theorem tots_putA (φ:S→Int→Int):∀ (acc:List (S × Int)) (e:S) (v:Int),tots φ (putA acc e v) = tots φ acc - ((getA acc e).map (φ e)).getD 0 + φ e v
  | [],e,v=>by simp [tots,putA,getA]
  | (k,x) :: r,e,v=>by
    have ih:=tots_putA φ r e v
    unfold tots at ih ⊢
    by_cases h:k = e
    · subst h
      simp only [putA,getA,if_true,List.map_cons,List.sum_cons,Option.map_some,Option.getD_some]
      omega
    · simp only [putA,getA,if_neg h,List.map_cons,List.sum_cons]
      rw [ih]; omega
theorem dvd_putA {D:Int}:∀ {acc:List (S × Int)} {e:S} {v:Int},(∀ p∈acc,D ∣ p.2)→D ∣ v→∀ p∈putA acc e v,D ∣ p.2
  | [],e,v,_,hv,p,hp=>by
    have:p = (e,v):=by simpa [putA] using hp
    rw [this]; exact hv
  | (k,x) :: r,e,v,ha,hv,p,hp=>by
    by_cases h:k = e
    · simp only [putA,if_pos h] at hp
      rcases List.mem_cons.mp hp with z | z
      · rw [z]; exact hv
      · exact ha p (List.mem_cons_of_mem _ z)
    · simp only [putA,if_neg h] at hp
      rcases List.mem_cons.mp hp with z | z
      · rw [z]; exact ha _ (List.mem_cons_self ..)
      · exact dvd_putA (fun q hq=>ha q (List.mem_cons_of_mem _ hq)) hv p z
theorem dvd_get {D:Int} {acc:List (S × Int)} (ha:∀ p∈acc,D ∣ p.2) (e:S):D ∣ (getA acc e).getD 0:=by
  induction acc with
  | nil=>exact Int.dvd_zero _
  | cons p r ih =>
    obtain ⟨k,x⟩:=p
    by_cases h:k = e
    · simp only [getA,if_pos h,Option.getD_some]; exact ha _ (List.mem_cons_self ..)
    · simp only [getA,if_neg h]; exact ih fun q hq=>ha q (List.mem_cons_of_mem _ hq)
theorem agg_go {D:Int} {φ:S→Int→Int} (A:Addt D φ):∀ (L acc:List (S × Int)),(∀ p∈L,D ∣ p.2)→(∀ p∈acc,D ∣ p.2)→tots φ (L.foldl addA acc) = tots φ acc + tots φ L∧∀ p∈L.foldl addA acc,D ∣ p.2
  | [],acc,_,ha=>⟨by simp [tots],ha⟩
  | p :: L,acc,hL,ha=>by
    have hp:=hL p (List.mem_cons_self ..)
    have hg:=dvd_get ha p.1
    have ha':∀ q∈addA acc p,D ∣ q.2:=dvd_putA ha (Int.dvd_add hg hp)
    obtain ⟨i1,i2⟩:=agg_go A L (addA acc p) (fun q hq=>hL q (List.mem_cons_of_mem _ hq)) ha'
    refine ⟨?_,i2⟩
    rw [List.foldl_cons,i1]
    unfold addA
    rw [tots_putA]
    have e1:φ p.1 ((getA acc p.1).getD 0 + p.2) = φ p.1 ((getA acc p.1).getD 0) + φ p.1 p.2:=A.add _ _ _ hg hp
    have e2:φ p.1 ((getA acc p.1).getD 0) = ((getA acc p.1).map (φ p.1)).getD 0:=by
      cases getA acc p.1 with
      | none=>exact A.zero _
      | some g=>rfl
    have e3:tots φ (p :: L) = φ p.1 p.2 + tots φ L:=by unfold tots; rw [List.map_cons,List.sum_cons]
    rw [e1,e2,e3]
    omega
theorem agg_sum {D:Int} {φ:S→Int→Int} (A:Addt D φ) {L:List (S × Int)} (hL:∀ p∈L,D ∣ p.2):tots φ (agg L) = tots φ L∧∀ p∈agg L,D ∣ p.2:=by
  obtain ⟨a,b⟩:=agg_go A L [] hL (fun p hp=>by cases hp)
  exact ⟨by rw [show agg L = L.foldl addA [] from rfl,a]; simp [tots],b⟩
theorem tots_flat {α:Type} (φ:S→Int→Int) (g:α→List (S × Int)):∀ L:List α,tots φ (L.flatMap g) = (L.map fun p=>tots φ (g p)).sum
  | []=>rfl
  | p :: L=>by
    rw [List.flatMap_cons,List.map_cons,List.sum_cons,← tots_flat φ g L]
    unfold tots
    rw [List.map_append,List.sum_append]
theorem lft_add {D a b:Int} {q:Int × Int} (hq:q.2 ∣ D) (ha:D ∣ a):lft (a + b) q = lft a q + lft b q:=by
  unfold lft
  rw [Int.add_mul]
  exact Int.add_ediv_of_dvd_left (Int.dvd_trans (Int.dvd_trans hq ha) (Int.dvd_mul_right ..))
theorem lft_zero (q:Int × Int):lft 0 q = 0:=by unfold lft; rw [Int.zero_mul,Int.zero_ediv]
theorem lft_dvd {U a:Int} {m:Nat} {q:Int × Int} (hq:q.2 ∣ U) (h0:0 < q.2) (ha:U ^ (m + 1) ∣ a):U ^ m ∣ lft a q:=by
  obtain ⟨c,rfl⟩:=ha
  obtain ⟨d,hd⟩:=hq
  unfold lft
  refine ⟨d * c * q.1,?_⟩
  refine Int.ediv_eq_of_eq_mul_right (by omega) ?_
  rw [Int.pow_succ]
  conv=>lhs; rw [hd]
  conv=>rhs; rw [hd]
  grind
structure Rel (U:Int) (o m:Nat) (ss L:List (S × Int)):Prop where
  sum:∀ φ,Addt (U ^ m) φ→tots φ ss = tots (fun t w=>φ (endOf t o) w) L
  ds:∀ p∈ss,U ^ m ∣ p.2
  dl:∀ p∈L,U ^ m ∣ p.2
structure Exact (nx:S→List S) (f:S→S→Int × Int) (U:Int):Prop where
  dv:∀ e l,l∈nx e→(f e l).2 ∣ U
  pos:∀ e l,l∈nx e→0 < (f e l).2
theorem Rel.step {nx:S→List S} {f:S→S→Int × Int} {U:Int} {o m:Nat} {ss L:List (S × Int)} (X:Exact nx f U) (R:Rel U o (m + 1) ss L) (w:S):Rel U o m (sstep nx f o ss w) (wstep nx f o L w):=by
  have inx:∀ {e l},l∈(nx e).filter (mf w)→l∈nx e:=fun h=>(List.mem_filter.mp h).1
  have d1:∀ p∈ss.flatMap (outs nx f o w),U ^ m ∣ p.2:=fun p hp=>by
    obtain ⟨q,hq,h2⟩:=List.mem_flatMap.mp hp
    obtain ⟨l,hl,rfl⟩:=List.mem_map.mp h2
    exact lft_dvd (X.dv _ _ (inx hl)) (X.pos _ _ (inx hl)) (R.ds q hq)
  have d2:∀ p∈wstep nx f o L w,U ^ m ∣ p.2:=fun p hp=>by
    obtain ⟨q,hq,h2⟩:=List.mem_flatMap.mp hp
    obtain ⟨l,hl,rfl⟩:=List.mem_map.mp h2
    exact lft_dvd (X.dv _ _ (inx hl)) (X.pos _ _ (inx hl)) (R.dl q hq)
  refine ⟨fun φ A=>?_,(agg_sum (φ:=fun _ _=>0) ⟨fun _=>rfl,fun _ _ _ _ _=>rfl⟩ d1).2,d2⟩
  unfold sstep
  rw [(agg_sum A d1).1,tots_flat]
  have hpsi:Addt (U ^ (m + 1)) (fun e v=>tots φ (outs nx f o w (e,v))):=by
    constructor
    · intro e
      unfold outs tots
      rw [List.map_map]
      have:∀ l:List S,(l.map ((fun p:S × Int=>φ p.1 p.2) ∘ fun l=>(endOf (e ++ l) o,lft 0 (f e l)))).sum = 0:=by
        intro l
        induction l with
        | nil=>rfl
        | cons x r ih =>
          rw [List.map_cons,List.sum_cons,ih]
          show φ _ (lft 0 _) + 0 = 0
          rw [lft_zero,A.zero]; rfl
      exact this _
    · intro e a b ha hb
      unfold outs tots
      rw [List.map_map,List.map_map,List.map_map]
      have go:∀ ls:List S,(∀ l∈ls,l∈nx e)→(ls.map ((fun p:S × Int=>φ p.1 p.2) ∘ fun l=>(endOf (e ++ l) o,lft (a + b) (f e l)))).sum = (ls.map ((fun p:S × Int=>φ p.1 p.2) ∘ fun l=>(endOf (e ++ l) o,lft a (f e l)))).sum + (ls.map ((fun p:S × Int=>φ p.1 p.2) ∘ fun l=>(endOf (e ++ l) o,lft b (f e l)))).sum:=by
        intro ls
        induction ls with
        | nil=>intro _; rfl
        | cons x r ih =>
          intro hr
          have hx:=hr x (List.mem_cons_self ..)
          rw [List.map_cons,List.map_cons,List.map_cons,List.sum_cons,List.sum_cons,List.sum_cons,ih fun l hl=>hr l (List.mem_cons_of_mem _ hl)]
          have e1:φ (endOf (e ++ x) o) (lft (a + b) (f e x)) = φ (endOf (e ++ x) o) (lft a (f e x)) + φ (endOf (e ++ x) o) (lft b (f e x)):=by
            rw [lft_add (D:=U ^ (m + 1)) (Int.dvd_trans (X.dv _ _ hx) ⟨U ^ m,by rw [Int.pow_succ,Int.mul_comm]⟩) ha]
            exact A.add _ _ _ (lft_dvd (X.dv _ _ hx) (X.pos _ _ hx) ha) (lft_dvd (X.dv _ _ hx) (X.pos _ _ hx) hb)
          show φ (endOf (e ++ x) o) (lft (a + b) (f e x)) + _ = φ (endOf (e ++ x) o) (lft a (f e x)) + _ + (φ (endOf (e ++ x) o) (lft b (f e x)) + _)
          rw [e1]; omega
      exact go _ fun l hl=>inx hl
  have h1:=R.sum _ hpsi
  have e1:tots (fun e v=>tots φ (outs nx f o w (e,v))) ss = (ss.map fun p=>tots φ (outs nx f o w p)).sum:=rfl
  rw [← e1,h1]
  unfold wstep
  rw [tots_flat]
  show (L.map fun p=>tots φ (outs nx f o w (endOf p.1 o,p.2))).sum = _
  congr 1
  refine List.map_congr_left fun p hp=>?_
  unfold outs tots
  rw [List.map_map,List.map_map]
  congr 1
  refine List.map_congr_left fun l hl=>?_
  show φ (endOf (endOf p.1 o ++ l) o) _ = φ (endOf (p.1 ++ l) o) _
  rw [endOf_end]
theorem Rel.all {nx:S→List S} {f:S→S→Int × Int} {U:Int} {o:Nat} (X:Exact nx f U):∀ (pat:List S) (m:Nat) (ss L:List (S × Int)),Rel U o (m + pat.length) ss L→Rel U o m (pat.foldl (sstep nx f o) ss) (pat.foldl (wstep nx f o) L)
  | [],m,ss,L,R=>R
  | w :: pat,m,ss,L,R=>by
    rw [List.foldl_cons,List.foldl_cons]
    exact Rel.all X pat m _ _ (R.step X w)
theorem Rel.start {U wt:Int} {o n:Nat} (h:U ^ n ∣ wt):Rel U o n [([],wt)] [([],wt)]:=by
  refine ⟨fun φ _=>?_,fun p hp=>?_,fun p hp=>?_⟩
  · simp [tots,endOf]
  · have:p = ([],wt):=by simpa using hp
    rw [this]; exact h
  · have:p = ([],wt):=by simpa using hp
    rw [this]; exact h
theorem Ss_Ws {nx:S→List S} {f:S→S→Int × Int} {U wt:Int} {o m:Nat} (X:Exact nx f U) (pat:List S) (h:U ^ (m + pat.length) ∣ wt):Rel U o m (Ss nx f o wt pat) (Ws nx f o wt pat):=Rel.all X pat m _ _ (Rel.start h)
theorem putA_sub {α:Type} {acc:List (S × α)} {e:S} {v:α} {k:S} (h:k∈(putA acc e v).map (·.1)):k∈acc.map (·.1)∨k = e:=by
  rw [putA_keys] at h
  split at h
  · exact .inl h
  · rcases List.mem_append.mp h with z | z
    · exact .inl z
    · exact .inr (by simpa using z)
theorem agg_keys_go:∀ (L acc:List (S × Int)),(acc.map (·.1)).Nodup→((L.foldl addA acc).map (·.1)).Nodup∧∀ k∈(L.foldl addA acc).map (·.1),k∈acc.map (·.1)∨k∈L.map (·.1)
  | [],acc,h=>⟨h,fun k hk=>.inl hk⟩
  | p :: L,acc,h=>by
    obtain ⟨a,b⟩:=agg_keys_go L (addA acc p) (putA_nodup h)
    refine ⟨a,fun k hk=>?_⟩
    rcases b k hk with z | z
    · rcases putA_sub z with y | y
      · exact .inl y
      · exact .inr (by rw [List.map_cons,y]; exact List.mem_cons_self ..)
    · exact .inr (by rw [List.map_cons]; exact List.mem_cons_of_mem _ z)
theorem agg_keys (L:List (S × Int)):((agg L).map (·.1)).Nodup∧∀ k∈(agg L).map (·.1),k∈L.map (·.1):=by
  obtain ⟨a,b⟩:=agg_keys_go L [] (by simp)
  exact ⟨a,fun k hk=>(b k hk).elim (fun z=>by cases z) id⟩
end Kn
end
section
set_option Elab.async false
set_option linter.all false
set_option maxHeartbeats 400000
namespace Kn
theorem nd_le {α:Type} [DecidableEq α]:∀ (l L:List α),l.Nodup→(∀ x∈l,x∈L)→l.length≤L.length
  | [],L,_,_=>Nat.zero_le _
  | x :: l,L,hn,hs=>by
    have hx:=hs x (List.mem_cons_self ..)
    have h1:=nd_le l (L.erase x) (List.nodup_cons.mp hn).2 fun y hy=>by
      have hne:y≠x:=fun z=>(List.nodup_cons.mp hn).1 (by rw [← z]; exact hy)
      exact (List.mem_erase_of_ne hne).mpr (hs y (List.mem_cons_of_mem _ hy))
    rw [List.length_erase_of_mem hx] at h1
    have h2:0 < L.length:=List.length_pos_of_mem hx
    rw [List.length_cons]; omega
theorem snoc_of {t:S} (h:t≠[]):∃ u c,t = u ++ [c]:=by
  rcases List.eq_nil_or_concat t with z | ⟨u,c,z⟩
  · exact absurd z h
  · exact ⟨u,c,by simpa using z⟩
theorem Tx_snoc (nx:S→List S) (o:Nat) (pat:List S) (w:S):Tx nx o (pat ++ [w]) = step1 nx o (Tx nx o pat) w:=by
  unfold Tx; rw [List.foldl_append]; rfl
theorem Ws_snoc (nx:S→List S) (f:S→S→Int × Int) (o:Nat) (wt:Int) (pat:List S) (w:S):Ws nx f o wt (pat ++ [w]) = wstep nx f o (Ws nx f o wt pat) w:=by
  unfold Ws; rw [List.foldl_append]; rfl
theorem Ss_snoc (nx:S→List S) (f:S→S→Int × Int) (o:Nat) (wt:Int) (pat:List S) (w:S):Ss nx f o wt (pat ++ [w]) = sstep nx f o (Ss nx f o wt pat) w:=by
  unfold Ss; rw [List.foldl_append]; rfl
structure Lts (ps:List (S × S)) (nx:S→List S):Prop where
  nd:∀ e,(nx e).Nodup
  mem:∀ e l,l∈nx e↔(e,l)∈ps
def Ones (ps:List (S × S)):Prop:=∀ e l,(e,l)∈ps→l.length≤1
theorem mf_any {l:S}:mf [] l = true↔l≠[]:=by unfold mf; simp
theorem Tx_mem {ps:List (S × S)} {nx:S→List S} (N:Lts ps nx) (O1:Ones ps) (o:Nat):∀ (n:Nat) (t:S),t∈Tx nx o (List.replicate n [])↔t.length = n∧∀ q∈pp o t,q∈ps
  | 0,t=>by
    show t∈[[]]↔_
    constructor
    · intro h
      have:t = []:=by simpa using h
      rw [this]; exact ⟨rfl,fun q hq=>by cases hq⟩
    · rintro ⟨h,_⟩
      rw [List.length_eq_zero_iff.mp h]; exact List.mem_singleton_self _
  | n + 1,t=>by
    rw [List.replicate_succ',Tx_snoc]
    unfold step1
    rw [List.mem_flatMap]
    constructor
    · rintro ⟨u,hu,h⟩
      obtain ⟨l,hl,rfl⟩:=List.mem_map.mp h
      obtain ⟨h1,h2⟩:=(Tx_mem N O1 o n u).mp hu
      obtain ⟨h3,h4⟩:=List.mem_filter.mp hl
      have h5:=(N.mem _ _).mp h3
      obtain ⟨c,rfl⟩:=one_of (O1 _ _ h5) (mf_any.mp h4)
      refine ⟨by rw [List.length_append,h1]; rfl,fun q hq=>?_⟩
      rw [pp_snoc] at hq
      rcases List.mem_append.mp hq with z | z
      · exact h2 q z
      · have:q = (endOf u o,[c]):=by simpa using z
        rw [this]; exact h5
    · rintro ⟨h1,h2⟩
      have hne:t≠[]:=fun z=>by rw [z] at h1; cases h1
      obtain ⟨u,c,rfl⟩:∃ u c,t = u ++ [c]:=snoc_of hne
      rw [List.length_append,List.length_singleton] at h1
      rw [pp_snoc] at h2
      refine ⟨u,(Tx_mem N O1 o n u).mpr ⟨by omega,fun q hq=>h2 q (List.mem_append_left _ hq)⟩,List.mem_map.mpr ⟨[c],List.mem_filter.mpr ⟨(N.mem _ _).mpr (h2 _ (List.mem_append_right _ (List.mem_singleton_self _))),mf_any.mpr (by simp)⟩,rfl⟩⟩
theorem nodup_flat {α β:Type} (g:α→List β):∀ (L:List α),L.Nodup→(∀ a∈L,(g a).Nodup)→(∀ a∈L,∀ b∈L,∀ x,x∈g a→x∈g b→a = b)→(L.flatMap g).Nodup
  | [],_,_,_=>by simp
  | a :: L,hn,h1,h2=>by
    rw [List.flatMap_cons]
    refine List.nodup_append.mpr ⟨h1 a (List.mem_cons_self ..),nodup_flat g L (List.nodup_cons.mp hn).2 (fun b hb=>h1 b (List.mem_cons_of_mem _ hb)) (fun b hb c hc=>h2 b (List.mem_cons_of_mem _ hb) c (List.mem_cons_of_mem _ hc)),fun x hx y hy e=>?_⟩
    subst e
    obtain ⟨b,hb,hxb⟩:=List.mem_flatMap.mp hy
    have:=h2 a (List.mem_cons_self ..) b (List.mem_cons_of_mem _ hb) x hx hxb
    rw [this] at hn
    exact (List.nodup_cons.mp hn).1 hb
theorem app_one {u v:S} {c d:Nat} (h:u ++ [c] = v ++ [d]):u = v∧c = d:=by
  have:=List.append_inj' h rfl
  exact ⟨this.1,by simpa using this.2⟩
theorem Tx_nodup {ps:List (S × S)} {nx:S→List S} (N:Lts ps nx) (O1:Ones ps) (o:Nat):∀ (n:Nat),(Tx nx o (List.replicate n [])).Nodup
  | 0=>by show ([[]]:List S).Nodup; simp
  | n + 1=>by
    rw [List.replicate_succ',Tx_snoc]
    unfold step1
    have one:∀ (u l:S),l∈(nx (endOf u o)).filter (mf [])→∃ c,l = [c]:=fun u l hl=>by
      obtain ⟨h3,h4⟩:=List.mem_filter.mp hl
      exact one_of (O1 _ _ ((N.mem _ _).mp h3)) (mf_any.mp h4)
    refine nodup_flat _ _ (Tx_nodup N O1 o n) (fun u _=>?_) (fun u _ v _ x hx hy=>?_)
    · refine List.Pairwise.map _ (fun a b hab z=>hab (List.append_cancel_left z)) ((N.nd _).filter _)
    · obtain ⟨l,hl,rfl⟩:=List.mem_map.mp hx
      obtain ⟨l',hl',e⟩:=List.mem_map.mp hy
      obtain ⟨c,rfl⟩:=one u l hl
      obtain ⟨d,rfl⟩:=one v l' hl'
      exact (app_one e).1.symm
def Made (ps:List (S × S)) (o n:Nat) (x:S):Prop:=x.length = n∧∀ q∈pairs1 o x,q∈ps
theorem made_iff {ps:List (S × S)} {nx:S→List S} (N:Lts ps nx) (O1:Ones ps) (o n:Nat) (x:S):Made ps o n x↔x∈(Tx nx o (List.replicate n [])).filter fun t=>decide ((endOf t o,[])∈ps):=by
  rw [List.mem_filter,Tx_mem N O1]
  unfold Made
  rw [pairs1_pp]
  constructor
  · rintro ⟨h1,h2⟩
    exact ⟨⟨h1,fun q hq=>h2 q (List.mem_append_left _ hq)⟩,decide_eq_true (h2 _ (List.mem_append_right _ (List.mem_singleton_self _)))⟩
  · rintro ⟨⟨h1,h2⟩,h3⟩
    refine ⟨h1,fun q hq=>?_⟩
    rcases List.mem_append.mp hq with z | z
    · exact h2 q z
    · have:q = (endOf x o,[]):=by simpa using z
      rw [this]; exact of_decide_eq_true h3
def Wt (f:S→S→Int × Int) (o:Nat) (wt:Int) (t:S):Int:=(pp o t).foldl (fun w q=>lft w (f q.1 q.2)) wt
theorem Ws_eq {ps:List (S × S)} {nx:S→List S} (N:Lts ps nx) (O1:Ones ps) (f:S→S→Int × Int) (o:Nat) (wt:Int):∀ n,Ws nx f o wt (List.replicate n []) = (Tx nx o (List.replicate n [])).map fun t=>(t,Wt f o wt t)
  | 0=>rfl
  | n + 1=>by
    rw [List.replicate_succ',Ws_snoc,Tx_snoc,Ws_eq N O1 f o wt n]
    unfold wstep step1
    rw [List.flatMap_map,List.map_flatMap]
    refine congrArg (fun g=>List.flatMap g (Tx nx o (List.replicate n []))) ?_
    funext t
    rw [List.map_map]
    refine List.map_congr_left fun l hl=>?_
    obtain ⟨h3,h4⟩:=List.mem_filter.mp hl
    obtain ⟨c,rfl⟩:=one_of (O1 _ _ ((N.mem _ _).mp h3)) (mf_any.mp h4)
    show (t ++ [c],_) = (t ++ [c],Wt f o wt (t ++ [c]))
    unfold Wt
    rw [pp_snoc,List.foldl_append]; rfl
theorem count_one {α:Type} [DecidableEq α] {l:List α} {a:α} (h:l.Nodup) (ha:a∈l):l.count a = 1:=by
  have h1:=List.nodup_iff_count.mp h a
  have h2:=List.count_pos_iff.mpr ha
  omega
theorem perm_of {α:Type} [DecidableEq α] {l m:List α} (h1:l.Nodup) (h2:m.Nodup) (h:∀ x,x∈l↔x∈m):l.Perm m:=by
  refine (List.perm_iff_count).mpr fun a=>?_
  by_cases ha:a∈l
  · rw [count_one h1 ha,count_one h2 ((h a).mp ha)]
  · rw [List.count_eq_zero_of_not_mem ha,List.count_eq_zero_of_not_mem fun z=>ha ((h a).mpr z)]
theorem sum_filter {α:Type} (c:α→Bool) (g:α→Int):∀ L:List α,(∀ a∈L,c a = false→g a = 0)→(L.map g).sum = ((L.filter c).map g).sum
  | [],_=>rfl
  | a :: L,h=>by
    have ih:=sum_filter c g L fun b hb=>h b (List.mem_cons_of_mem _ hb)
    rw [List.map_cons,List.sum_cons,ih]
    cases e:c a with
    | true=>rw [List.filter_cons_of_pos e,List.map_cons,List.sum_cons]
    | false=>rw [List.filter_cons_of_neg (by rw [e]; decide),h a (List.mem_cons_self ..) e]; omega
theorem Wt_one (o:Nat) (t:S):Wt (fun _ _=>(1,1)) o 1 t = 1:=by
  unfold Wt
  have:∀ qs:List (S × S),qs.foldl (fun w q=>lft w ((fun _ _=>((1:Int),(1:Int))) q.1 q.2)) 1 = 1:=by
    intro qs
    induction qs with
    | nil=>rfl
    | cons q qs ih=>rw [List.foldl_cons]; exact ih
  exact this _
theorem all_count {ps:List (S × S)} {nx:S→List S} (N:Lts ps nx) (O1:Ones ps) {o n:Nat} {M:List S} (hM:M.Nodup) (hm:∀ x,x∈M↔Made ps o n x) :
    tots (fun e h=>lft h (if (e,[])∈ps then (1,1) else (0,1))) (Ss nx (fun _ _=>(1,1)) o 1 (List.replicate n [])) = (M.length:Int):=by
  have X:Exact nx (fun _ _=>(1,1)) 1:=⟨fun e l _=>Int.dvd_refl _,fun e l _=>by decide⟩
  have R:Rel 1 o 0 (Ss nx (fun _ _=>(1,1)) o 1 (List.replicate n [])) (Ws nx (fun _ _=>(1,1)) o 1 (List.replicate n [])):=Ss_Ws X _ (by rw [Int.one_pow]; exact Int.dvd_refl _)
  have one:∀ (e:S),(if (e,[])∈ps then ((1:Int),(1:Int)) else (0,1)).2 ∣ (1:Int):=fun e=>by split <;> exact Int.dvd_refl _
  rw [R.sum _ ⟨fun e=>lft_zero _,fun e a b ha hb=>lft_add (D:=1 ^ 0) (by rw [Int.one_pow]; exact one e) ha⟩,Ws_eq N O1]
  show (((Tx nx o (List.replicate n [])).map fun t=>(t,Wt (fun _ _=>(1,1)) o 1 t)).map fun p=>lft p.2 (if (endOf p.1 o,[])∈ps then (1,1) else (0,1))).sum = _
  rw [List.map_map]
  have e1:((fun p:S × Int=>lft p.2 (if (endOf p.1 o,[])∈ps then (1,1) else (0,1))) ∘ fun t=>(t,Wt (fun _ _=>(1,1)) o 1 t)) = fun t=>if (endOf t o,[])∈ps then (1:Int) else 0:=by
    funext t
    show lft (Wt (fun _ _=>(1,1)) o 1 t) (if (endOf t o,[])∈ps then (1,1) else (0,1)) = _
    rw [Wt_one]
    split <;> rfl
  rw [e1,sum_filter (fun t=>decide ((endOf t o,[])∈ps)) _ _ fun t _ h=>if_neg (of_decide_eq_false h)]
  have e2:∀ L:List S,((L.filter fun t=>decide ((endOf t o,[])∈ps)).map fun t=>if (endOf t o,[])∈ps then (1:Int) else 0).sum = ((L.filter fun t=>decide ((endOf t o,[])∈ps)).length:Int):=by
    intro L
    induction L with
    | nil=>rfl
    | cons t L ih =>
      by_cases c:(endOf t o,[])∈ps
      · rw [List.filter_cons_of_pos (by simpa using c),List.map_cons,List.sum_cons,ih,if_pos c,List.length_cons]
        have:∀ k:Nat,(1:Int) + (k:Int) = ((k + 1:Nat):Int):=fun k=>by omega
        exact this _
      · rw [List.filter_cons_of_neg (by simpa using c),ih]
  rw [e2]
  have:=(perm_of ((Tx_nodup N O1 o n).filter _) hM fun x=>by rw [← made_iff N O1,hm]).length_eq
  rw [this]
def Cl (ps:List (S × S)) (o:Nat):Nat→S→Prop
  | 0,e=>(e,[])∈ps
  | k + 1,e=>∃ l,l≠[]∧(e,l)∈ps∧Cl ps o k (endOf (e ++ l) o)
structure AllT (ps:List (S × S)) (o n i:Nat) (A:List S):Prop where
  ris:A.Pairwise (· < ·)
  snd:∀ t∈A,t.length = i∧(∀ q∈pp o t,q∈ps)∧(0 < i→Cl ps o (n - i) (endOf t o))
  cmp:∀ t,t.length = i→(∀ q∈pp o t,q∈ps)→Cl ps o (n - i) (endOf t o)→t∈A
theorem lt_app:∀ {a b:S} (x y:S),a.length = b.length→a < b→a ++ x < b ++ y
  | [],[],x,y,_,h=>absurd h (List.lt_irrefl _)
  | c :: a,d :: b,x,y,hl,h=>by
    rw [List.cons_append,List.cons_append]
    rw [List.cons_lt_cons_iff] at h ⊢
    rcases h with h | ⟨h1,h2⟩
    · exact .inl h
    · exact .inr ⟨h1,lt_app x y (by simpa using hl) h2⟩
theorem app_lt:∀ (a:S) {x y:S},x < y→a ++ x < a ++ y
  | [],x,y,h=>h
  | c :: a,x,y,h=>by
    rw [List.cons_append,List.cons_append,List.cons_lt_cons_iff]
    exact .inr ⟨rfl,app_lt a h⟩
theorem ris_flat (lt:S→List S):∀ (A:List S),A.Pairwise (· < ·)→(∀ a∈A,∀ b∈A,a.length = b.length)→(∀ a∈A,(lt a).Pairwise (· < ·))→(A.flatMap fun t=>(lt t).map (t ++ ·)).Pairwise (· < ·)
  | [],_,_,_=>by simp
  | a :: A,h1,h2,h3=>by
    rw [List.flatMap_cons,List.pairwise_append]
    refine ⟨List.Pairwise.map _ (fun x y h=>app_lt a h) (h3 a (List.mem_cons_self ..)),ris_flat lt A (List.pairwise_cons.mp h1).2 (fun x hx y hy=>h2 x (List.mem_cons_of_mem _ hx) y (List.mem_cons_of_mem _ hy)) (fun x hx=>h3 x (List.mem_cons_of_mem _ hx)),fun x hx y hy=>?_⟩
    obtain ⟨l,_,rfl⟩:=List.mem_map.mp hx
    obtain ⟨b,hb,hy2⟩:=List.mem_flatMap.mp hy
    obtain ⟨l',_,rfl⟩:=List.mem_map.mp hy2
    exact lt_app l l' (h2 a (List.mem_cons_self ..) b (List.mem_cons_of_mem _ hb)) ((List.pairwise_cons.mp h1).1 b hb)
theorem AllT.start (ps:List (S × S)) (o n:Nat):AllT ps o n 0 [[]]:=by
  refine ⟨by simp,fun t ht=>?_,fun t ht _ _=>?_⟩
  · have:t = []:=by simpa using ht
    rw [this]; exact ⟨rfl,(fun q hq=>by cases hq),fun h=>absurd h (Nat.lt_irrefl _)⟩
  · rw [List.length_eq_zero_iff.mp ht]; exact List.mem_singleton_self _
theorem AllT.step {ps:List (S × S)} {o n i:Nat} {A:List S} (O1:Ones ps) (h:AllT ps o n i A) (hi:i < n) (lt:S→List S) (h1:∀ t∈A,(lt (endOf t o)).Pairwise (· < ·)) (h2:∀ t∈A,∀ l,l∈lt (endOf t o)↔l≠[]∧(endOf t o,l)∈ps∧Cl ps o (n - (i + 1)) (endOf (endOf t o ++ l) o)) :
    AllT ps o n (i + 1) (A.flatMap fun t=>(lt (endOf t o)).map (t ++ ·)):=by
  refine ⟨ris_flat (fun t=>lt (endOf t o)) A h.ris (fun a ha b hb=>by rw [(h.snd a ha).1,(h.snd b hb).1]) h1,fun t ht=>?_,fun t g1 g2 g3=>?_⟩
  · obtain ⟨u,hu,hx⟩:=List.mem_flatMap.mp ht
    obtain ⟨l,hl,rfl⟩:=List.mem_map.mp hx
    obtain ⟨g1,g2,g3⟩:=h.snd u hu
    obtain ⟨k1,k2,k3⟩:=(h2 u hu l).mp hl
    obtain ⟨c,rfl⟩:=one_of (O1 _ _ k2) k1
    rw [endOf_end] at k3
    refine ⟨by rw [List.length_append,g1]; rfl,fun q hq=>?_,fun _=>k3⟩
    rw [pp_snoc] at hq
    rcases List.mem_append.mp hq with z | z
    · exact g2 q z
    · have:q = (endOf u o,[c]):=by simpa using z
      rw [this]; exact k2
  · have hne:t≠[]:=fun z=>by rw [z] at g1; cases g1
    obtain ⟨u,c,rfl⟩:∃ u c,t = u ++ [c]:=snoc_of hne
    rw [List.length_append,List.length_singleton] at g1
    rw [pp_snoc] at g2
    have hp:(endOf u o,[c])∈ps:=g2 _ (List.mem_append_right _ (List.mem_singleton_self _))
    have g4:Cl ps o (n - (i + 1)) (endOf (endOf u o ++ [c]) o):=by rw [endOf_end]; exact g3
    have hu:u∈A:=h.cmp u (by omega) (fun q hq=>g2 q (List.mem_append_left _ hq)) (by
      rw [show n - i = (n - (i + 1)) + 1 by omega]
      exact ⟨[c],by simp,hp,g4⟩)
    exact List.mem_flatMap.mpr ⟨u,hu,List.mem_map.mpr ⟨[c],(h2 u hu [c]).mpr ⟨by simp,hp,g4⟩,rfl⟩⟩
theorem AllT.made {ps:List (S × S)} {o n:Nat} {A:List S} (h:AllT ps o n n A) (hn:0 < n):A.Nodup∧∀ x,x∈A↔Made ps o n x:=by
  refine ⟨h.ris.imp fun {a b} z e=>by rw [e] at z; exact List.lt_irrefl _ z,fun x=>?_⟩
  unfold Made
  rw [pairs1_pp]
  constructor
  · intro hx
    obtain ⟨h1,h2,h3⟩:=h.snd x hx
    have h3:=h3 hn
    rw [Nat.sub_self] at h3
    refine ⟨h1,fun q hq=>?_⟩
    rcases List.mem_append.mp hq with z | z
    · exact h2 q z
    · have:q = (endOf x o,[]):=by simpa using z
      rw [this]; exact h3
  · rintro ⟨h1,h2⟩
    refine h.cmp x h1 (fun q hq=>h2 q (List.mem_append_left _ hq)) ?_
    rw [Nat.sub_self]
    exact h2 _ (List.mem_append_right _ (List.mem_singleton_self _))
end Kn
end
section
set_option Elab.async false
set_option linter.all false
set_option maxRecDepth 100000
set_option maxHeartbeats 1000000
namespace Kn.Ln
open PySem L2 Kn
theorem str_mk {K:PySem.W.Frag} {x z:Str} {t:Tok} (h:PySem.W.nsIn K mainGlobals x = some (some (.str z t))):∃ t,PySem.W.nsIn K mainGlobals x = some (some (.str z t)):=⟨t,h⟩
def SameX (f:Addr) (H H':Hp):Prop:=∀ b u,b≠f→H b = some u→H' b = some u
theorem SameX.refl {f:Addr} (H:Hp):SameX f H H:=fun b u _ h=>h
theorem SameX.upd1 {f a:Addr} {H H':Hp} {u:HO} (s:SameX f H H') (h:H' a = none):SameX f H (upd H' a u):=fun b v hb e=>by
  have:=s b v hb e
  rw [upd_ne (ne_of_none this h)]; exact this
theorem SameX.updf {f:Addr} {H H':Hp} {u:HO} (s:SameX f H H'):SameX f H (upd H' f u):=fun b v hb e=>by rw [upd_ne hb]; exact s b v hb e
theorem SameX.trans {f:Addr} {H H' H'':Hp} (s:SameX f H H') (t:SameX f H' H''):SameX f H H'':=fun b v hb e=>t b v hb (s b v hb e)
theorem SameX.of {f:Addr} {H H':Hp} (s:Same H H'):SameX f H H':=fun b v _ e=>s b v e
theorem SameX.seqT {K:PySem.W.Frag} {f:Addr} {H H':Hp} {a:Addr} {xs:List V} (s:SameX f H H') (hf:∀ ys,¬ Rd H f (.tup ys)) (h:SqT K H a xs):SqT K H' a xs:=by
  rcases h with h | h
  · have hb:a≠f:=fun z=>by subst z; exact hf _ h
    rcases h with h | ⟨o,h⟩
    · exact .inl (.inl (s _ _ hb h))
    · exact .inl (.inr ⟨o,s _ _ hb h⟩)
  · exact .inr h
theorem SameX.frA {K:PySem.W.Frag} {f:Addr} {H H':Hp} {v:V} {q:Int × Int} (s:SameX f H H') (hf:∀ ys,¬ Rd H f (.tup ys)) (h:FrA K H v q):FrA K H' v q:=by
  obtain ⟨a,rfl,h⟩:=h
  exact ⟨a,rfl,s.seqT hf h⟩
theorem notTup {H:Hp} {f:Addr} {kvs:List (Key × V)} (h:H f = some (.dK kvs)):∀ ys,¬ Rd H f (.tup ys):=fun ys z=>by
  rcases z with z | ⟨o,z⟩ <;> rw [h] at z <;> cases z
abbrev nxOf (ps:List (S × S)) (e:S):List S:=(rowOf ps e).map (·.1)
theorem nxOf_mem (ps:List (S × S)) (e l:S):l∈nxOf ps e↔(e,l)∈ps:=by
  constructor
  · intro h
    obtain ⟨⟨l',n⟩,h1,rfl⟩:=List.mem_map.mp h
    obtain ⟨h2,h3⟩:=(rowOf_mem ps e l' n).mp h1
    have h4:0 < ps.count (e,l'):=by rw [h2] at h3; omega
    exact List.count_pos_iff.mp h4
  · intro h
    exact List.mem_map.mpr ⟨(l,(ps.count (e,l):Int)),(rowOf_mem ps e l _).mpr ⟨rfl,by have:=List.count_pos_iff.mpr h; omega⟩,rfl⟩
theorem lts (ps:List (S × S)):Lts ps (nxOf ps):=⟨fun e=>rowOf_nd ps e,fun e l=>nxOf_mem ps e l⟩
theorem ones_B (o:Nat) (bk:List S):Ones (pairsB o bk):=fun e l h=>pairB_one h
theorem row_len (ps:List (S × S)) (e:S):(rowOf ps e).length≤ps.length:=by
  have h1:=nd_le (nxOf ps e) (ps.map (·.2)) (rowOf_nd _ _) fun l hl=>List.mem_map.mpr ⟨_,(nxOf_mem _ _ _).mp hl,rfl⟩
  rw [List.length_map,List.length_map] at h1
  exact h1
end Kn.Ln
end
section
set_option Elab.async false
set_option linter.all false
set_option maxRecDepth 100000
set_option maxHeartbeats 1000000
namespace Kn.Ln
open PySem L2 Kn
theorem inV_bkL (x:S) (l:List S):inV (sv x) (bkV l) = decide (x∈l):=by
  unfold inV bkV
  rw [List.any_map]
  induction l with
  | nil=>simp
  | cons y l ih =>
    rw [List.any_cons,ih]
    have e:eqV (sv y) (sv x) = decide (x = y):=by
      show ((tx y) == (tx x)) = _
      by_cases z:x = y
      · subst z; simp
      · rw [decide_eq_false z,beq_eq_false_iff_ne]
        exact fun q=>z (tx_inj q).symm
    show (eqV (sv y) (sv x) || _) = _
    rw [e]
    by_cases z:x = y
    · subst z; simp
    · simp [z]
theorem flat_bkL (l:List S):(bkV l).all flatV = true:=by
  unfold bkV
  rw [List.all_map]
  exact List.all_eq_true.mpr fun _ _=>rfl
theorem ys1L {ys:St} (h:ys.length = 1):∃ y,ys = [y]:=by
  match ys,h with
  | [y],_=>exact ⟨y,rfl⟩
def PartRow (K:PySem.W.Frag) (H:Hp) (pd:Addr) (ps:List (S × S)) (f:S→S→Int × Int) (r:S × Addr × List (S × V)):Prop :=
  r.2.1≠pd∧H r.2.1 = some (.dK (encD id r.2.2))∧r.2.2.map (·.1) = nxOf ps r.1∧∀ q∈r.2.2,FrA K H q.2 (f r.1 q.1)
def PartsAt (K:PySem.W.Frag) (H:Hp) (pd:Addr) (ps:List (S × S)) (f:S→S→Int × Int):Prop:=∃ pa:List (S × Addr × List (S × V)),pa.map (·.1) = (rowsOf ps).map (·.1)∧H pd = some (.dK (encD (fun v:Addr × List (S × V)=>V.ref v.1) pa))∧∀ r∈pa,PartRow K H pd ps f r
theorem PartRow.same {K:PySem.W.Frag} {H H':Hp} {pd:Addr} {ps:List (S × S)} {f:S→S→Int × Int} {r:S × Addr × List (S × V)} (h:PartRow K H pd ps f r) (e:Same H H'):PartRow K H' pd ps f r :=
  ⟨h.1,e _ _ h.2.1,h.2.2.1,fun q hq=>(h.2.2.2 q hq).same e⟩
theorem PartsAt.same {K:PySem.W.Frag} {H H':Hp} {pd:Addr} {ps:List (S × S)} {f:S→S→Int × Int} (h:PartsAt K H pd ps f) (e:Same H H'):PartsAt K H' pd ps f:=by
  obtain ⟨pa,h1,h2,h3⟩:=h
  exact ⟨pa,h1,e _ _ h2,fun r hr=>(h3 r hr).same e⟩
theorem PartRow.sameX {K:PySem.W.Frag} {H H':Hp} {pd:Addr} {ps:List (S × S)} {f:S→S→Int × Int} {r:S × Addr × List (S × V)} (h:PartRow K H pd ps f r) (hd:∀ ys,¬ Rd H pd (.tup ys)) (e:SameX pd H H'):PartRow K H' pd ps f r :=
  ⟨h.1,e _ _ h.1 h.2.1,h.2.2.1,fun q hq=>e.frA hd (h.2.2.2 q hq)⟩
theorem row_is {ps:List (S × S)} {ra:List (S × Addr × List (S × Int))} (h:ra.map (fun r=>(r.1,r.2.2)) = rowsOf ps) {r:S × Addr × List (S × Int)} (hr:r∈ra):r.2.2 = rowOf ps r.1:=by
  have h1:(r.1,r.2.2)∈rowsOf ps:=by rw [← h]; exact List.mem_map.mpr ⟨r,hr,rfl⟩
  have h2:=(getA_mem (rows_ok ps).nd _ _).mp h1
  unfold rowOf
  rw [h2]; rfl
theorem keys_len {ps:List (S × S)}:(rowsOf ps).length≤ps.length:=by
  have h1:=nd_le ((rowsOf ps).map (·.1)) (ps.map (·.1)) (rows_ok ps).nd fun e he=>by
    obtain ⟨⟨e',row⟩,h2,rfl⟩:=List.mem_map.mp he
    obtain ⟨l,hl⟩:=((rows_ok ps).has e').mp ⟨row,(getA_mem (rows_ok ps).nd _ _).mp h2⟩
    exact List.mem_map.mpr ⟨_,hl,rfl⟩
  rw [List.length_map,List.length_map] at h1
  exact h1
theorem enc_ne {ra:List (S × Addr × List (S × Int))} {row:List (S × Int)} (h:encD (fun v:Addr × List (S × Int)=>V.ref v.1) ra = rowV row):ra = []:=by
  cases ra with
  | nil=>rfl
  | cons r ra =>
    cases row with
    | nil=>cases h
    | cons q row =>
      have h1:=(List.cons.inj h).1
      have h2:V.ref r.2.1 = V.int q.2:=(Prod.mk.inj h1).2
      cases h2
theorem row_ne {H:Hp} {d:Addr} {ra:List (S × Addr × List (S × Int))} (hd:H d = some (.dK (encD (fun v:Addr × List (S × Int)=>V.ref v.1) ra))) (h3:∀ r∈ra,H r.2.1 = some (.dK (rowV r.2.2))):∀ r∈ra,r.2.1≠d:=fun r hr z=>by
  have h:=h3 r hr
  rw [z,hd] at h
  have:=enc_ne (HO.dK.inj (Option.some.inj h))
  rw [this] at hr; cases hr
section
variable {P:Program} {w:World} {K:PySem.W.Frag} {mg:Str→Option Value} {base:Heap}
abbrev sLeft:Stmt:=top 45
theorem scLeft:FnScope ["weight", "part"] ["weight", "part"] (defScope sLeft):=⟨rfl,rfl,rfl,by decide +kernel,rfl,by decide +kernel,by decide +kernel⟩
def spLeft (K:PySem.W.Frag):Sp:=fun vs H Q _=>∃ (x:Int) (v:V) (q:Int × Int),vs = [.int x,v]∧FrA K H v q∧0≤q.1∧q.1 < 1000000∧0 < q.2∧q.2 < 1000000∧Q (.int (lft x q)) H
theorem ok_left {f:Addr} {fd:FuncData} (F:Fun K "left_of" "left_of" sLeft f fd):FnOk P w K mg base CX0 1 f fd ["weight", "part"] (spLeft K):=by
  refine F.ok scLeft (fun vs H Q E h=>?_) (fun cdv A outer s H vs Q E hr h=>?_)
  · obtain ⟨x,v,q,rfl,_⟩:=h; rfl
  · obtain ⟨x,v,q,rfl,⟨a,rfl,ha⟩,h1,h2,h3,h4,k⟩:=h
    refine ⟨_,pss_one (ps_ret (pe_op op_fdiv (pe_op op_mul (pv 0) (pe_ix ix_tup (pv 1) pe_int (fun _ _=>rfl))) (pe_ix ix_tup (pv 1) pe_int (fun _ _=>rfl)))),?_⟩
    exact ⟨_,rfl,_,rfl,a,_,0,_,rfl,rfl,ha,rfl,_,_,rfl,rfl,.inr ⟨by omega,by omega⟩,_,rfl,a,_,1,_,rfl,rfl,ha,rfl,_,_,rfl,rfl,⟨h3,by omega⟩,k⟩
abbrev sFollow:Stmt:=top 46
theorem scFollow:FnScope ["letter", "wanted"] ["letter", "wanted"] (defScope sFollow):=⟨rfl,rfl,rfl,by decide +kernel,rfl,by decide +kernel,by decide +kernel⟩
def spFollow:Sp:=fun vs H Q _=>∃ (l x:S),vs = [sv l,sv x]∧∀ H',Same H H'→Q (.bl (mf x l)) H'
theorem ok_follow {f:Addr} {fd:FuncData} (F:Fun K "may_follow" "may_follow" sFollow f fd) (hA:∃ t,mg "ANY" = some (.str "" t)):FnOk P w K mg base CX0 1 f fd ["letter", "wanted"] spFollow:=by
  obtain ⟨u,hA⟩:=hA
  refine F.ok scFollow (fun vs H Q E h=>?_) (fun cdv A outer s H vs Q E hr h=>?_)
  · obtain ⟨x,v,rfl,_⟩:=h; rfl
  · obtain ⟨l,x,rfl,k⟩:=h
    refine ⟨_,pss_one (ps_ret (pe_and (pe_cmpR op_ne (pv 0) pe_str (nomark _)) (pe_one (pe_cmpR op_in_seq (pv 1) (pe_tup (pa_cons (pe_glob (v:=.str "") (by rfl) hA ⟨_,rfl⟩) (pa_cons (pv 0) pa_nil))) (by with_unfolding_all rfl))))),?_⟩
    refine ⟨_,rfl,rfl,_,rfl,?_⟩
    by_cases hl:l = []
    · subst hl
      refine iteNS rfl ?_
      have e:mf x [] = false:=by unfold mf; simp
      have:=k H (Same.refl H)
      rw [e] at this
      exact this
    · have hne:¬ V.str (tx l) = V.str "" := fun z=>hl (tx_inj (V.str.inj z))
      refine ite_nn hne ⟨_,rfl,_,rfl,by show 2≤sizeLine; decide,fun p hp=>⟨p,bkV [[],l],rfl,.inr (.of upd_same),rfl,flat_bkL _,?_⟩⟩
      have e:(if false = true then !inV (sv x) (bkV [[],l]) else inV (sv x) (bkV [[],l])) = mf x l:=by
        rw [if_neg (by simp),inV_bkL]
        unfold mf
        rw [decide_eq_true hl,Bool.true_and]
        by_cases h1:x = []
        · subst h1; simp
        · by_cases h2:x = l
          · subst h2; simp
          · simp [h1,h2]
      show Q (.bl (if false = true then !inV (sv x) (bkV [[],l]) else inV (sv x) (bkV [[],l]))) _
      rw [e]
      exact k _ (Same.upd1 hp)
abbrev sEven:Stmt:=top 44
theorem scEven:FnScope ["rows", "parts", "end", "row"] ["rows"] (defScope sEven):=⟨rfl,rfl,rfl,by decide +kernel,rfl,by decide +kernel,by decide +kernel⟩
theorem ndEv:(["letter"]:List Str).Nodup:=by decide +kernel
def spEven (K:PySem.W.Frag):Sp:=fun vs H Q _=>∃ (d:Addr) (ps:List (S × S)),vs = [.ref d]∧RowsAt H d ps∧ps.length < 900∧∀ pd H',Same H H'→H pd = none→PartsAt K H' pd ps (fun _ _=>(1,1))→Q (.ref pd) H'
theorem row_key {row:List (S × Int)} {i:Nat} {x:V} (h:((rowV row).map fun p=>kV p.1)[i]? = some x):∃ (hi:i < row.length),x = sv row[i].1:=by
  unfold rowV encD encK at h
  rw [List.getElem?_map,List.getElem?_map,List.getElem?_map] at h
  cases e:row[i]? with
  | none=>rw [e] at h; cases h
  | some q =>
    rw [e] at h
    obtain ⟨hi,e2⟩:=List.getElem?_eq_some_iff.mp e
    refine ⟨hi,?_⟩
    rw [e2]
    exact (Option.some.inj h).symm
theorem encD_id (kv:List (S × V)):encK (kv.map fun q=>(tx q.1,q.2)) = encD id kv:=rfl
theorem ok_even {f:Addr} {fd:FuncData} (F:Fun K "even_parts" "even_parts" sEven f fd) (C:Cst2 K mg) (hdi:mg "dict" = none):FnOk P w K mg base CX0 1 f fd ["rows"] (spEven K):=by
  obtain ⟨aW,hW,tW⟩:=C.whole
  refine F.ok scEven (fun vs H Q E h=>?_) (fun cdv A outer s H vs Q E hr h=>?_)
  · obtain ⟨d,ps,rfl,_⟩:=h; rfl
  · obtain ⟨d,ps,rfl,⟨ra,r1,r2,r3⟩,hps,k⟩:=h
    have hu:=hu_of hr
    have nd:=scEven.nd
    refine ⟨_,pss_cons (ps_set (i:=1) nd rfl (Or.inl rfl) pe_dnewK)
      (pss_cons (ps_thaw (ps_for PassesOwn.never rfl (pi_items (pe_bm0K K rfl PySem.F.plainAttrs_dict PySem.F.slot_dict_items PySem.F.type_dict_items mt_items (pv 0)))
          (pg_tup rfl (pgs_cons (pg_name (i:=2) nd rfl (Or.inl rfl)) (pgs_cons (pg_name (i:=3) nd rfl (Or.inl rfl)) pgs_nil)))
          (pss_one (ps_dput hu (pv 1) (pv 2) (pe_callTy (call_dictL rfl) (by rfl) hdi PyProof.Rows.boot_dict (pa_cons
            (pe_thaw (pe_comp (N:=["letter"]) (caps:=[]) rfl (compScope_of (by kernel_rfl)) (pi_dict (pv 3)) (fun cl X s H ex=>pg_name (i:=0) ndEv rfl (Or.inl rfl)) (fun cl X s H ex=>pf_nil) (fun cl X s H ex=>pe_tup (pa_cons (pv 0) (pa_cons (pe_glob (v:=.ref aW) (by rfl) hW rfl) pa_nil))))) pa_nil)) rfl))))
      (pss_one (ps_ret (pv 1)))),?_⟩
    intro pd hpd
    have sH1:Same H (upd H pd (.dK [])):=Same.upd1 hpd
    have hd1:=sH1 _ _ r2
    have hdpd:pd≠d:=(ne_of_none r2 hpd).symm
    refine ⟨d,_,hd1,?_⟩
    refine ⟨_,rfl,.inr (.inr (.inl ⟨rfl,.inl ⟨_,hd1⟩⟩)),d,_,rfl,rfl,hd1,fun p hp=>?_⟩
    have hp0:H p = none:=sH1.free hp
    have hppd:p≠pd:=fun z=>by subst z; rw [upd_same] at hp; cases hp
    have sH2:Same (upd H pd (.dK [])) (upd (upd H pd (.dK [])) p (VW p d)):=Same.upd1 hp
    refine ⟨p,d,_,rfl,upd_same,sH2 _ _ hd1,fun ob=>?_⟩
    generalize hkv:encD (fun v:Addr × List (S × Int)=>V.ref v.1) ra = kvs at r2 hd1
    generalize hH3:upd (upd (upd H pd (.dK [])) p (VW p d)) d (.frz ob (.dK kvs)) = H3
    have s3:Same (upd H d (.frz ob (.dK kvs))) H3:=fun b u e=>by
      rw [← hH3]
      by_cases hb:b = d
      · subst hb; rw [upd_same] at e ⊢; exact e
      · rw [upd_ne hb] at e ⊢
        exact sH2 _ _ (sH1 _ _ e)
    have hpd3:H3 pd = some (.dK (encD (fun v:Addr × List (S × V)=>V.ref v.1) [])):=by
      rw [← hH3,upd_ne hdpd,upd_ne hppd.symm,upd_same]; rfl
    have hpd0:upd H d (.frz ob (.dK kvs)) pd = none:=by rw [upd_ne hdpd]; exact hpd
    have rne:=row_ne (by rw [hkv]; exact r2) r3
    have ral:ra.length≤ps.length:=by
      have h1:=keys_len (ps:=ps)
      rw [← r1,List.length_map] at h1; exact h1
    refine for_items (fun i σ H'=>(∃ x2 x3:Option V,σ = [some (.ref d),some (.ref pd),x2,x3])∧Same (upd H d (.frz ob (.dK kvs))) H'∧∃ pa:List (S × Addr × List (S × V)),H' pd = some (.dK (encD (fun v:Addr × List (S × V)=>V.ref v.1) pa))∧pa.map (·.1) = (ra.take i).map (·.1)∧∀ r∈pa,PartRow K H' pd ps (fun _ _=>(1,1)) r)
      ⟨⟨_,_,rfl⟩,s3,[],hpd3,rfl,fun r hr=>by cases hr⟩ (fun i σ H' _ h=>h.2.1 _ _ upd_same) ?_ ?_
    · rintro i q T σ H' Nx hN hq ⟨⟨x2,x3,rfl⟩,sm,pa,hpa,hpk,hpr⟩ hT
      rw [← hkv] at hq
      unfold encD encK at hq
      rw [List.getElem?_map,List.getElem?_map] at hq
      cases ei:ra[i]? with
      | none=>rw [ei] at hq; cases hq
      | some r0 =>
      rw [ei] at hq
      have hq2:q = (Sum.inr (tx r0.1),V.ref r0.2.1):=(Option.some.inj hq).symm
      subst hq2
      have hmem:r0∈ra:=List.mem_of_getElem? ei
      have hi:i < ra.length:=(List.getElem?_eq_some_iff.mp ei).1
      have etk:ra.take (i + 1) = ra.take i ++ [r0]:=by rw [List.take_succ_eq_append_getElem hi,(List.getElem?_eq_some_iff.mp ei).2]
      have hrow:=row_is r1 hmem
      have h0r:upd H d (.frz ob (.dK kvs)) r0.2.1 = some (.dK (rowV r0.2.2)):=by rw [upd_ne (rne r0 hmem)]; exact r3 r0 hmem
      refine ⟨T,[sv r0.1,.ref r0.2.1],rfl,.of upd_same,rfl,_,_,rfl,_,_,rfl,rfl,?_⟩
      generalize hH4:upd H' T (HO.tup [kV ((Sum.inr (tx r0.1):Key),V.ref r0.2.1).1,((Sum.inr (tx r0.1):Key),V.ref r0.2.1).2]) = H4
      have s4:Same H' H4:=by rw [← hH4]; exact Same.upd1 hT
      have hr4:H4 r0.2.1 = some (.dK (rowV r0.2.2)):=s4 _ _ (sm _ _ h0r)
      have sm4:=sm.trans s4
      have hpa4:=s4 _ _ hpa
      have hpr4:∀ r∈pa,PartRow K H4 pd ps (fun _ _=>(1,1)) r:=fun r hr=>(hpr r hr).same s4
      have nrp:r0.2.1≠pd:=fun z=>by rw [z] at h0r; rw [hpd0] at h0r; cases h0r
      refine ⟨r0.2.1,rowV r0.2.2,hr4,_,rfl,r0.2.1,_,rfl,hr4,fun ob2=>?_⟩
      have hlen:((rowV r0.2.2).map fun p=>kV p.1).length = r0.2.2.length:=by rw [List.length_map]; exact encD_len _ _
      have hl2:r0.2.2.length≤ps.length:=by rw [hrow]; exact row_len ps r0.1
      refine comp_known0 (known_dict r0.2.1 ob2 (rowV r0.2.2)) [] 1 (by rw [hlen]; omega) (fun j acc H5=>Same (upd H4 r0.2.1 (.frz ob2 (.dK (rowV r0.2.2)))) H5∧acc.length = j∧∀ (m:Nat) (x:S × Int),(r0.2.2.take j)[m]? = some x→∃ a,acc[m]? = some (.ref a)∧H5 a = some (.tup [sv x.1,.ref aW]))
        ⟨Same.refl _,rfl,fun m x hm=>by simp at hm⟩ (fun j acc H5 _ h=>⟨h.1 _ _ upd_same,Nat.le_of_eq h.2.1⟩) ?_ ?_
      · rintro j x acc H5 ys Nx2 hN2 hx hy ⟨sj,hal,hac⟩
        obtain ⟨y',rfl⟩:=ys1L hy
        obtain ⟨hj,rfl⟩:=row_key hx
        refine ⟨_,rfl,by show 2≤sizeLine; decide,fun t ht=>?_⟩
        have s6:Same H5 (upd H5 t (.tup [sv r0.2.2[j].1,.ref aW])):=Same.upd1 ht
        refine hN2 _ _ [some (sv r0.2.2[j].1)] rfl ⟨sj.trans s6,by rw [List.length_append,hal]; rfl,fun m x hm=>?_⟩
        rw [List.take_succ_eq_append_getElem hj] at hm
        have hjl:(r0.2.2.take j).length = j:=by rw [List.length_take]; omega
        by_cases hmj:m < j
        · rw [List.getElem?_append_left (by omega)] at hm
          obtain ⟨a,h1,h2⟩:=hac m x hm
          exact ⟨a,by rw [List.getElem?_append_left (by omega)]; exact h1,s6 _ _ h2⟩
        · rw [List.getElem?_append_right (by omega),hjl] at hm
          have hm0:m - j = 0:=by
            have:=(List.getElem?_eq_some_iff.mp hm).1
            simp at this; omega
          rw [hm0] at hm
          have hx2:r0.2.2[j] = x:=Option.some.inj hm
          subst hx2
          exact ⟨t,by rw [List.getElem?_append_right (by omega),hal,hm0]; rfl,upd_same⟩
      · rintro acc H5 ⟨sj,hal,hac⟩ D hD
        rw [hlen,List.take_length] at hac
        rw [hlen] at hal
        have hfz:H5 r0.2.1 = some (.frz ob2 (.dK (rowV r0.2.2))):=sj _ _ upd_same
        have hneD:r0.2.1≠D:=ne_of_none hfz hD
        have sD:Same H5 (upd H5 D (.lst acc)):=Same.upd1 hD
        refine ⟨ob2,by rw [upd_ne hneD]; exact hfz,?_⟩
        have s7:Same H4 (upd (upd H5 D (.lst acc)) r0.2.1 (.dK (rowV r0.2.2))):=Same.thaw (sj.trans sD) hr4
        generalize hH7:upd (upd H5 D (.lst acc)) r0.2.1 (.dK (rowV r0.2.2)) = H7 at s7
        have hD7:H7 D = some (.lst acc):=by rw [← hH7,upd_ne hneD.symm,upd_same]
        have hac7:PrsAt K H7 acc (r0.2.2.map fun x=>(tx x.1,V.ref aW)):=by
          refine ⟨by rw [List.length_map]; exact hal,fun m x hm=>?_⟩
          rw [List.getElem?_map] at hm
          cases em:r0.2.2[m]? with
          | none=>rw [em] at hm; cases hm
          | some x0 =>
            rw [em] at hm
            have hx:(tx x0.1,V.ref aW) = x:=Option.some.inj hm
            subst hx
            obtain ⟨a,h1,h2⟩:=hac m x0 em
            have hna:a≠r0.2.1:=fun z=>by rw [z,hfz] at h2; cases h2
            exact ⟨a,h1,.of (by rw [← hH7,upd_ne hna]; exact sD _ _ h2)⟩
        refine ⟨D,acc,_,rfl,.of hD7,hac7,?_,by rw [List.length_map]; omega,fun rd hrd=>?_⟩
        · have hnd:(r0.2.2.map (·.1)).Nodup:=by rw [hrow]; exact rowOf_nd ps r0.1
          have e:List.map (·.1) (r0.2.2.map fun x=>(tx x.1,V.ref aW)) = (r0.2.2.map (·.1)).map tx:=by rw [List.map_map,List.map_map]; rfl
          rw [e]
          exact List.Pairwise.map tx (fun a b hab z=>hab (tx_inj z)) hnd
        have s8:Same H7 (upd H7 rd (.dK (encK (r0.2.2.map fun x=>(tx x.1,V.ref aW))))):=Same.upd1 hrd
        have hpa7:=s8 _ _ (s7 _ _ hpa4)
        refine ⟨_,rfl,_,rfl,pd,_,rfl,DPut.k (k:=Sum.inr (tx r0.1)) hpa7 (by rw [encD_len,← List.length_map (f:=(·.1)),hpk,List.length_map,List.length_take,sizeLine_eq]; omega),?_⟩
        have hnrd:pd≠rd:=ne_of_none (s7 _ _ hpa4) hrd
        have knd:(pa.map (·.1)).Nodup:=by
          rw [hpk,List.map_take]
          have h:=(rows_ok ps).nd
          rw [← r1,List.map_map] at h
          exact h.sublist (List.take_sublist _ _)
        have fresh:r0.1 ∉ pa.map (·.1):=fun h1=>by
          rw [hpk] at h1
          have h:=(rows_ok ps).nd
          rw [← r1,List.map_map] at h
          have h2:((ra.take (i + 1)).map (·.1)).Nodup:=by rw [List.map_take]; exact h.sublist (List.take_sublist _ _)
          rw [etk,List.map_append] at h2
          exact (List.nodup_append.mp h2).2.2 _ h1 _ (by simp) rfl
        have eput:=put_enc (fun v:Addr × List (S × V)=>V.ref v.1) pa r0.1 (rd,r0.2.2.map fun x=>(x.1,V.ref aW)) knd
        have eputA:putA pa r0.1 (rd,r0.2.2.map fun x=>(x.1,V.ref aW)) = pa ++ [(r0.1,rd,r0.2.2.map fun x=>(x.1,V.ref aW))]:=putA_new pa _ _ fresh
        rw [eputA] at eput
        have sx:SameX pd (upd H7 rd (.dK (encK (r0.2.2.map fun x=>(tx x.1,V.ref aW))))) (upd (upd H7 rd (.dK (encK (r0.2.2.map fun x=>(tx x.1,V.ref aW))))) pd (.dK (putK (encD (fun v:Addr × List (S × V)=>V.ref v.1) pa) (Sum.inr (tx r0.1)) (V.ref rd)))):=(SameX.refl _).updf
        refine hN _ _ ⟨⟨_,_,rfl⟩,fun b u e=>?_,pa ++ [(r0.1,rd,r0.2.2.map fun x=>(x.1,V.ref aW))],?_,?_,fun r hr=>?_⟩
        · have hb:b≠pd:=fun z=>by rw [z,hpd0] at e; cases e
          exact sx _ _ hb (s8 _ _ (s7 _ _ (sm4 _ _ e)))
        · rw [upd_same]
          exact congrArg (fun z=>some (HO.dK z)) eput
        · rw [List.map_append,hpk,etk,List.map_append]; rfl
        · rcases List.mem_append.mp hr with z | z
          · exact (((hpr4 r z).same s7).same s8).sameX (notTup hpa7) sx
          · have hr2:r = (r0.1,rd,r0.2.2.map fun x=>(x.1,V.ref aW)):=List.mem_singleton.mp z
            subst hr2
            refine ⟨hnrd.symm,?_,?_,fun q hq=>?_⟩
            · refine sx _ _ hnrd.symm ?_
              rw [upd_same,← encD_id,List.map_map]; rfl
            · show List.map (·.1) (r0.2.2.map fun x=>(x.1,V.ref aW)) = _
              rw [List.map_map,hrow]; rfl
            · obtain ⟨x,_,rfl⟩:=List.mem_map.mp hq
              exact ⟨aW,rfl,tW _⟩
    · rintro σ H' ⟨⟨x2,x3,rfl⟩,sm,pa,hpa,hpk,hpr⟩
      refine ⟨ob,sm _ _ upd_same,_,rfl,?_⟩
      have sfin:Same H (upd H' d (.dK kvs)):=Same.thaw sm r2
      have hel:(encD (fun v:Addr × List (S × Int)=>V.ref v.1) ra).length = ra.length:=encD_len _ _
      rw [← hkv,hel,List.take_length] at hpk
      have tfz:∀ ys,¬ Rd H' d (.tup ys):=fun ys z=>by
        have:=sm _ _ upd_same
        rcases z with z | ⟨o,z⟩ <;> rw [this] at z <;> cases z
      refine k pd _ sfin hpd ⟨pa,?_,?_,fun r hr=>?_⟩
      · rw [hpk,← r1,List.map_map]; rfl
      · rw [upd_ne hdpd]; exact hpa
      · obtain ⟨h1,h2,h3,h4⟩:=hpr r hr
        have hrd:r.2.1≠d:=fun z=>by
          rw [z] at h2
          rw [sm _ _ upd_same] at h2; cases h2
        have sx:SameX d H' (upd H' d (.dK kvs)):=(SameX.refl _).updf
        exact ⟨h1,by rw [upd_ne hrd]; exact h2,h3,fun q hq=>sx.frA tfz (h4 q hq)⟩
end
end Kn.Ln
end
section
set_option Elab.async false
set_option linter.all false
set_option maxRecDepth 100000
set_option maxHeartbeats 1000000
namespace L2
open PySem PySem.Spec PyProof.Rows
section
variable {X:Cx}
def rValuesR:V→List V→Hp→VK→Prop:=fun x vs H Q=>∃ d kvs,x = .ref d∧vs = []∧Rd H d (.dK kvs)∧∀ p,H p = none→Q (.ref p) (upd H p (VLS p d))
theorem mt_valuesR:MtM X "dict.values" rValuesR:=by
  intro pins s σ H x vs v us Q I rx rv h
  obtain ⟨d,kvs,rfl,rfl,hd,q⟩:=h
  cases rx
  have hus:=rv.zero
  subst hus
  obtain ⟨z,hm,ws,rel,dd⟩:=dk_rd I.hok hd
  refine call_meetsIn PySem.F.slot_dict_values dd.typeIs PySem.F.entry_dict_values (PySem.F.args_dict_values_1 _) (meets_dict_values (mixKind X.prog X.w) d hm) ⟨⟨_,dd⟩,?_⟩
  refine ⟨.ref s.heap.objs.size,_,I.laid (t':=s.toks) (o:=VLS s.heap.objs.size d) (fun b o e=>Heap.get?_push_of_some _ e) (Nat.le_refl _) ?_,rfl,q _ (I.hok.fresh (Nat.le_refl _))⟩
  exact ⟨Heap.get?_push_size _ rfl,⟨_,Heap.get?_push_size _ rfl⟩,fun h1 h2 e k=>k _ e⟩
theorem call_sumValsR (hc:X.calm = true):CallR X (.builtin "sum") (fun xs H Q=>∃ (p d:Addr) (kns:List (Key × Int)),xs = [.ref p]∧H p = some (VLS p d)∧Rd H d (.dK (kns.map fun q=>(q.1,V.int q.2)))∧Q (.int (kns.map (·.2)).sum) H):=by
  intro pins s σ H xs us Q I r h
  obtain ⟨p,d,kns,rfl,hp,hd,q⟩:=h
  obtain ⟨u,rfl,ru⟩:=vals1 r
  cases ru
  obtain ⟨z,hm,ws,rel,dd⟩:=dk_rd I.hok hd
  obtain ⟨hv,_,_⟩:=I.hok p _ hp
  obtain ⟨ep,hat⟩:=dd.dictAt
  have hlen:ws.length = kns.length:=by have:=rel.length; simpa using this.symm
  have hwi:∀ (i:Nat) (v:Value),(∃ k,ws[i]? = some (k,v))→∃ t,v = Value.int ((kns.map (·.2)).getD i 0) t:=fun i v ⟨k,e⟩=>by
    obtain ⟨x,e1,e2⟩:=KV.get rel e
    rw [List.getElem?_map] at e1
    cases g:kns[i]? with
    | none=>rw [g] at e1; cases e1
    | some q' =>
      rw [g] at e1
      have e1':(q'.1,V.int q'.2) = (k,x):=Option.some.inj e1
      have:x = V.int q'.2:=(Prod.mk.inj e1').2.symm
      subst this
      obtain ⟨t,rfl⟩:=e2
      refine ⟨t,?_⟩
      have:(kns.map (·.2)).getD i 0 = q'.2:=by rw [List.getD_eq_getElem?_getD,List.getElem?_map,g]; rfl
      rw [this]
  have Ks:=PySem.W.kdl_values (knd:=mixKind X.prog X.w) (kvs:=ws) (ep:=ep) (r:=p) (d:=d)
  obtain ⟨oI,St,hit,W,st⟩:=Ks.iter X.A.in1 s (I.ok.hd hc) ⟨⟨_,hv,rfl,rfl⟩,hat⟩
  have hth:=Ks.there s.heap ⟨⟨_,hv,rfl,rfl⟩,hat⟩
  refine call_sum_walkAnyS (hit _ _ ⟨s.heap.objs.size,_,_,_,ws.length,_,_,fun i=>(kns.map (·.2)).getD i 0,rfl,W.toS,st,fun b hb=>?_,hwi,fun s' t' hm=>?_⟩)
  · show b < (s.heap.push oI).objs.size
    rw [size_push']
    rcases List.mem_cons.mp hb with e | hb
    · rw [e]; exact Nat.lt_succ_self _
    · rw [List.mem_singleton.mp hb]; exact Nat.lt_succ_of_lt hth.2
  have hk:∀ b o,s.heap.get? b = some o→s'.heap.get? b = some o:=fun b o e =>
    hm.heap b o (fun hI=>absurd (Heap.lt_size e) (by rw [List.mem_singleton.mp hI]; exact Nat.lt_irrefl _)) (Heap.get?_push_of_some _ e)
  rw [Moved.eq_with hm]
  refine ⟨.int (kns.map (·.2)).sum,H,I.kept (h':=s'.heap) (t':=s'.toks) hk,⟨t',?_⟩,q⟩
  rw [hlen,← List.length_map (f:=(·.2)) (as:=kns),preSum_take _ _ (Nat.le_refl _),List.take_length]
def tBMD (r:V→List V→Hp→VK→Prop) (to:TE):TE:=fun σ H Q=>to σ H fun x H1=>∃ a,x = .ref a∧IsD H1 a∧r x [] H1 Q
theorem pe_bmD {o:Expr} {to:TE} {name:Str} {apos cpos:Pos} {id:String} {r:V→List V→Hp→VK→Prop} (slot:Slot "dict" name id) (hty:typeOf (.builtin id) = pure (.type "method_descriptor")) (hm:MtR X id r) (ho:PE X o to)
    (hbase:attributeBase o name X.env (eval o X.env) = eval o X.env:=by rfl) (hline:(apos.endLine == cpos.line) = true:=by rfl):PE X (.Call (.Attribute o name apos) [] [] cpos) (tBMD r to):=by
  intro pins s σ H Q I h
  refine wpAny_Call_method0_late hbase hline (thn (ho pins s σ H _ I h) fun v s1 ⟨x,H1,I1,r1,a,ex,d,q1⟩=>?_)
  subst ex
  cases r1
  obtain ⟨h1,h2,_⟩:=isD_at I1 d
  exact ⟨"dict",id,PySem.F.plainAttrs_dict,slot,hty,h1,h2,Calls.callWith_builtin rfl (PySem.evalArgs_none (hm pins s1 σ H1 (.ref a) [] _ [] Q I1 (show RelV (.ref a) (.ref a) from rfl) .nil q1))⟩
def tDispK (tk tv:TE):TE:=fun σ H Q=>∀ p,H p = none→tk σ (upd H p (.dK [])) fun x H1=>tv σ H1 fun y H2=>H2 p = some (.dK [])∧∃ k:Key,x = kV k∧Q (.ref p) (upd H2 p (.dK [(k,y)]))
theorem pe_dispK {k v:Expr} {pos:Pos} {tk tv:TE} (hk:PE X k tk) (hv:PE X v tv):PE X (.Dict [some k] [v] pos) (tDispK tk tv):=by
  intro pins s σ H Q I q
  have hn:=I.hok.fresh (Nat.le_refl s.heap.objs.size)
  have I1:=I.laid (a:=s.heap.objs.size) (o:=.dK []) (h':=s.heap.push { cls:=.type "dict",data:=.dict #[] }) (t':=s.toks) (fun _ _ q=>Heap.get?_push_of_some _ q) (Nat.le_refl _) (dk_empty s.heap I.big)
  have hp:PPs X pos [some k] [v] [(tk,tv)]:=pps_cons hk hv pps_nil
  refine wpAny_Dict_any rfl rfl (by simp) (by simp) (thn (hp pins _ σ _ (fun ps H2=>match ps with | [(x,y)]=>H2 s.heap.objs.size = some (.dK [])∧∃ kk:Key,x = kV kk∧Q (.ref s.heap.objs.size) (upd H2 s.heap.objs.size (.dK [(kk,y)])) | _=>False) I1 (q _ hn)) fun ws s2 ⟨ps,H2,I2,rel,q2⟩=>?_)
  match ps,rel,q2 with
  | [(x,y)],rel,q2 =>
    obtain ⟨e0,kk,ex,q2⟩:=q2
    cases rel with
    | @cons _ wv _ ws' r1 r2 =>
    cases r2
    obtain ⟨wk,wv⟩:=wv
    obtain ⟨r1,r3⟩:=r1
    subst ex
    obtain ⟨z,hd,vs,rel,dd⟩:=dk_of I2.hok e0
    cases rel
    unfold storeAll
    rw [List.forIn_cons]
    refine wpAny_bind (wpAny_bind (wpAny_dictSet_pairs (knd:=mixKind X.prog X.w) (hsz:=Nat.zero_le _) (kV_is r1) dd (fun h' dd' hs=>wpAny_pure ?_)))
    show wpAny _ _ (forIn [] _ _) _ _ _
    rw [List.forIn_nil]
    refine wpAny_pure ⟨.ref s.heap.objs.size,_,?_,rfl,q2⟩
    have he:∃ q,h'.get? s.heap.objs.size = some q:=let ⟨q,_,_,hq,_⟩:=dd'; ⟨q,hq⟩
    exact d_write I2 (by rw [e0]; exact True.intro) hs he (dk_new (by show 1≤sizeLine; decide) hd (KV.put .nil kk r3) dd')
end
end L2
end
section
set_option Elab.async false
set_option linter.all false
set_option maxRecDepth 100000
set_option maxHeartbeats 1000000
namespace Kn.Ln
open PySem L2 Kn
section
variable {P:Program} {w:World} {K:PySem.W.Frag} {mg:Str→Option Value} {base:Heap}
theorem Cal.imp {k:Nat} {x:Str} {ps:List Str} {sp sp':Sp} (C:Cal P w K mg base k x ps sp) (h:∀ {vs H Q E},sp' vs H Q E→sp vs H Q E):Cal P w K mg base k x ps sp' :=
  let ⟨f,fd,F,r⟩:=C; ⟨f,fd,F.imp fun _ _ _ _=>h,r⟩
def spPartR (K:PySem.W.Frag):Sp:=fun vs H Q _=>∃ (d:Addr) (ps:List (S × S)) (e l:S),vs = [.ref d,sv l]∧Rd H d (.dK (rowV (rowOf ps e)))∧ps.length < 1000∧∀ v H',Same H H'→FrA K H' v (part ps e l)→Q v H'
theorem partR_imp {vs:List V} {H:Hp} {Q:VK} {E:XK} (h:spPart K vs H Q E):spPartR K vs H Q E:=by
  obtain ⟨d,ps,e,l,rfl,hd,hl,k⟩:=h
  exact ⟨d,ps,e,l,rfl,.inl hd,hl,k⟩
theorem ok_partR {f:Addr} {fd:FuncData} (F:Fun K "part_in" "part_in" sPart f fd) (B:Blt mg) (C:Cst2 K mg) (c1:Cal P w K mg base 2 "lowest" ["up", "down"] spLow):FnOk P w K mg base CX0 3 f fd ["row", "letter"] (spPartR K):=by
  obtain ⟨aN,hN,tN⟩:=C.nought
  refine F.ok scPart (fun vs H Q E h=>?_) (fun cdv A outer s H vs Q E hr h=>?_)
  · obtain ⟨d,ps,e,l,rfl,_⟩:=h; rfl
  · obtain ⟨d,ps,e,l,rfl,hd,hl,k⟩:=h
    have hu:=hu_of hr
    refine ⟨_,pss_cons (ps_if (pt_cmp (pc_dnotin hu (pv 1) (pv 0))) (pss_one (ps_ret (pe_glob (v:=.ref aN) (by rfl) hN rfl))) pss_nil)
      (pss_one (ps_ret (pe_cal c1 hr rfl (pa_cons (pe_dget hu (pv 0) (pv 1) (fun _ _=>rfl)) (pa_cons (pe_callB (call_sumValsR rfl) (by rfl) B.sum PyProof.Rows.boot_sum (pa_cons (pe_bmD PySem.F.slot_dict_values PySem.F.type_dict_values mt_valuesR (pv 0)) pa_nil)) pa_nil))))),?_⟩
    have dg:DGet H d (sv l) (valV (rowV (rowOf ps e)) (Sum.inr (tx l))):=.inl ⟨_,Sum.inr (tx l),hd,rfl,rfl⟩
    refine ⟨_,rfl,_,rfl,d,_,rfl,dg,_,rfl,?_⟩
    rw [val_enc,rowOf_get]
    by_cases c:0 < ps.count (e,l)
    · rw [if_pos c]
      refine iteF ?_
      rw [val_enc,rowOf_get,if_pos c] at dg
      refine ⟨_,rfl,_,rfl,d,.int (ps.count (e,l):Int),rfl,dg,?_⟩
      refine ⟨_,rfl,d,rfl,.inl ⟨_,hd⟩,d,_,rfl,rfl,hd,fun p hp=>?_⟩
      have s1:Same H (upd H p (VLS p d)):=Same.upd1 hp
      have hd1:Rd (upd H p (VLS p d)) d (.dK (rowV (rowOf ps e))):=by
        rcases hd with z | ⟨o,z⟩
        · exact .inl (s1 _ _ z)
        · exact .inr ⟨o,s1 _ _ z⟩
      refine ⟨p,d,(rowOf ps e).map (fun q=>((Sum.inr (tx q.1):Key),q.2)),rfl,upd_same,?_,?_⟩
      · have e1:((rowOf ps e).map (fun q=>((Sum.inr (tx q.1):Key),q.2))).map (fun q=>(q.1,V.int q.2)) = rowV (rowOf ps e):=by
          unfold rowV encD encK
          rw [List.map_map,List.map_map]; rfl
        rw [e1]; exact hd1
      · have e1:(((rowOf ps e).map fun q=>((Sum.inr (tx q.1):Key),q.2)).map (·.2)).sum = (tot ps e:Int):=by
          rw [List.map_map]; exact rowOf_total ps e
        rw [e1]
        have h1:=count_le_tot ps e l
        have h2:=tot_le ps e
        refine ⟨_,_,rfl,by omega,by omega,by omega,fun p2 hp2=>k _ _ (s1.trans (Same.upd1 hp2)) ?_⟩
        have:part ps e l = low (ps.count (e,l):Int) (tot ps e:Int):=by unfold part; rw [if_neg (by omega)]
        rw [this]
        exact FrA.new
    · rw [if_neg c]
      refine iteT ?_
      have:part ps e l = (0,1):=by unfold part; rw [if_pos (by omega)]
      exact k _ _ (Same.refl H) (by rw [this]; exact ⟨aN,rfl,tN _⟩)
end
end Kn.Ln
end
section
set_option Elab.async false
set_option linter.all false
set_option maxRecDepth 100000
set_option maxHeartbeats 1000000
namespace Kn.Ln
open PySem L2 Kn
section
variable {P:Program} {w:World} {K:PySem.W.Frag} {mg:Str→Option Value} {base:Heap}
end
end Kn.Ln
end
section
set_option Elab.async false
set_option linter.all false
set_option maxRecDepth 100000
set_option maxHeartbeats 1000000
namespace Kn.Ln
open PySem L2 Kn
theorem pairs72L {bk:List S} {o:Nat} (hb:Bk bk o):(pairsB o bk).length≤72:=by
  have h2:((pairsB o bk).length:Int)≤72:=by
    rw [pairsB_length]
    have go:∀ l:List S,(∀ x∈l,x.length≤8)→(l.map fun x=>(x.length:Int) + 1).sum≤9 * (l.length:Int):=by
      intro l
      induction l with
      | nil=>intro _; simp
      | cons x r ih =>
        intro hl
        have h1:=hl x (List.mem_cons_self ..)
        have h2:=ih fun y hy=>hl y (List.mem_cons_of_mem _ hy)
        rw [List.map_cons,List.sum_cons,List.length_cons]
        have:((r.length + 1:Nat):Int) = (r.length:Int) + 1:=rfl
        omega
    have:=go bk hb.l8
    have:=hb.hi
    omega
  omega
theorem pair_end {o:Nat} {bk:List S} {e l:S} (h:(e,l)∈pairsB o bk):e.length≤o:=by
  obtain ⟨x,_,h⟩:=List.mem_flatMap.mp h
  obtain ⟨p,_,h⟩:=List.mem_map.mp h
  rw [← (Prod.mk.inj h).1]
  exact endOf_length _ _
structure SumsOk (ps:List (S × S)) (ss:List (S × Int)):Prop where
  nd:(ss.map (·.1)).Nodup
  rows:∀ p∈ss,∃ l,(p.1,l)∈ps
theorem out_row {o:Nat} {bk:List S} {f:S→S→Int × Int} {x:S} {p q:S × Int} (hq:q∈outs (nxOf (pairsB o bk)) f o x p):∃ l,(q.1,l)∈pairsB o bk:=by
  obtain ⟨l,hl,rfl⟩:=List.mem_map.mp hq
  obtain ⟨h1,h2⟩:=List.mem_filter.mp hl
  have hm:=(nxOf_mem _ _ _).mp h1
  have hn:l≠[]:=fun z=>by
    unfold mf at h2
    rw [z] at h2; simp at h2
  obtain ⟨c,rfl⟩:=one_of (pairB_one hm) hn
  exact pairB_next hm
theorem SumsOk.step {o:Nat} {bk:List S} {f:S→S→Int × Int} {ss:List (S × Int)} {x:S} (h:SumsOk (pairsB o bk) ss):SumsOk (pairsB o bk) (sstep (nxOf (pairsB o bk)) f o ss x):=by
  obtain ⟨h1,h2⟩:=agg_keys (ss.flatMap (outs (nxOf (pairsB o bk)) f o x))
  refine ⟨h1,fun p hp=>?_⟩
  obtain ⟨q,hq,e⟩:=List.mem_map.mp (h2 p.1 (List.mem_map.mpr ⟨p,hp,rfl⟩))
  obtain ⟨p0,_,hq⟩:=List.mem_flatMap.mp hq
  rw [← e]
  exact out_row hq
theorem SumsOk.len {ps:List (S × S)} {ss:List (S × Int)} (h:SumsOk ps ss):ss.length≤ps.length:=by
  have h1:=nd_le (ss.map (·.1)) (ps.map (·.1)) h.nd fun e he=>by
    obtain ⟨p,hp,rfl⟩:=List.mem_map.mp he
    obtain ⟨l,hl⟩:=h.rows p hp
    exact List.mem_map.mpr ⟨_,hl,rfl⟩
  rw [List.length_map,List.length_map] at h1
  exact h1
def Smf (f:S→S→Int × Int):Prop:=∀ e l,0≤(f e l).1∧(f e l).1 < 1000000∧0 < (f e l).2∧(f e l).2 < 1000000
theorem PartsAt.row {K:PySem.W.Frag} {H:Hp} {pd:Addr} {ps:List (S × S)} {f:S→S→Int × Int} (h:PartsAt K H pd ps f) {e l:S} (hl:(e,l)∈ps) :
    ∃ (ra:Addr) (kv:List (S × V)),DGet H pd (sv e) (some (.ref ra))∧ra≠pd∧H ra = some (.dK (encD id kv))∧kv.map (·.1) = nxOf ps e∧∀ q∈kv,FrA K H q.2 (f e q.1):=by
  obtain ⟨pa,h1,h2,h3⟩:=h
  have knd:(pa.map (·.1)).Nodup:=by rw [h1]; exact (rows_ok ps).nd
  obtain ⟨row,hrw⟩:=((rows_ok ps).has e).mpr ⟨l,hl⟩
  have h4:e∈pa.map (·.1):=by rw [h1]; exact List.mem_map.mpr ⟨_,(getA_mem (rows_ok ps).nd _ _).mpr hrw,rfl⟩
  obtain ⟨r,hr,rfl⟩:=List.mem_map.mp h4
  obtain ⟨g1,g2,g3,g4⟩:=h3 r hr
  refine ⟨r.2.1,r.2.2,?_,g1,g2,g3,g4⟩
  have:=DGet.k (k:=Sum.inr (tx r.1)) h2
  rw [val_enc,(getA_mem knd r.1 r.2).mp hr] at this
  exact this
theorem ref_int {ss:List (S × Int)} {α:Type} {g:α→V} (hg:∀ a,∃ x,g a = V.ref x) {pa:List (S × α)} (h:rowV ss = encD g pa) (hs:ss≠[]):False:=by
  cases ss with
  | nil=>exact hs rfl
  | cons p ss =>
    cases pa with
    | nil=>cases h
    | cons r pa =>
      have h1:=(List.cons.inj h).1
      have h2:V.int p.2 = g r.2:=(Prod.mk.inj h1).2
      obtain ⟨x,hx⟩:=hg r.2
      rw [hx] at h2; cases h2
section
variable {P:Program} {w:World} {K:PySem.W.Frag} {mg:Str→Option Value} {base:Heap}
abbrev sNextS:Stmt:=top 47
theorem scNextS:FnScope ["parts", "order", "sums", "wanted", "found", "end", "weight", "letter", "part", "reached"] ["parts", "order", "sums", "wanted"] (defScope sNextS):=⟨rfl,rfl,rfl,by decide +kernel,rfl,by decide +kernel,by decide +kernel⟩
def spNextS (K:PySem.W.Frag):Sp:=fun vs H Q _=>∃ (pd sd:Addr) (o:Nat) (bk:List S) (f:S→S→Int × Int) (ss:List (S × Int)) (x:S),vs = [.ref pd,.int o,.ref sd,sv x]∧Bk bk o∧PartsAt K H pd (pairsB o bk) f∧Smf f∧H sd = some (.dK (rowV ss))∧SumsOk (pairsB o bk) ss ∧
  ∀ fo H',Same H H'→H fo = none→H' fo = some (.dK (rowV (sstep (nxOf (pairsB o bk)) f o ss x)))→Q (.ref fo) H'
theorem ok_nextS {f:Addr} {fd:FuncData} (F:Fun K "next_sums" "next_sums" sNextS f fd) (cF:Cal P w K mg base 1 "may_follow" ["letter", "wanted"] spFollow) (cEnd:Cal P w K mg base 1 "end_of" ["text", "order"] spEnd) (cL:Cal P w K mg base 1 "left_of" ["weight", "part"] (spLeft K)) :
    FnOk P w K mg base CX0 2 f fd ["parts", "order", "sums", "wanted"] (spNextS K):=by
  refine F.ok scNextS (fun vs H Q E h=>?_) (fun cdv A outer s H vs Q E hr h=>?_)
  · obtain ⟨pd,sd,o,bk,f,ss,x,rfl,_⟩:=h; rfl
  · obtain ⟨pd,sd,o,bk,ff,ss,x,rfl,hb,hP,hS,hsd,hss,k⟩:=h
    have hu:=hu_of hr
    have nd:=scNextS.nd
    refine ⟨_,pss_cons (ps_set (i:=4) nd rfl (Or.inl rfl) pe_dnewK)
      (pss_cons (ps_thaw (ps_for PassesOwn.never rfl (pi_items (pe_bm0K K rfl PySem.F.plainAttrs_dict PySem.F.slot_dict_items PySem.F.type_dict_items mt_items (pv 2)))
          (pg_tup rfl (pgs_cons (pg_name (i:=5) nd rfl (Or.inl rfl)) (pgs_cons (pg_name (i:=6) nd rfl (Or.inl rfl)) pgs_nil)))
          (pss_one (ps_thaw (ps_for PassesOwn.never rfl (pi_items (pe_bm0K K rfl PySem.F.plainAttrs_dict PySem.F.slot_dict_items PySem.F.type_dict_items mt_items (pe_dget hu (pv 0) (pv 5) (fun _ _=>rfl))))
            (pg_tup rfl (pgs_cons (pg_name (i:=7) nd rfl (Or.inl rfl)) (pgs_cons (pg_name (i:=8) nd rfl (Or.inl rfl)) pgs_nil)))
            (pss_one (ps_if (pt_val (pe_cal cF hr rfl (pa_cons (pv 7) (pa_cons (pv 3) pa_nil))))
              (pss_cons (ps_set (i:=9) nd rfl (Or.inl rfl) (pe_cal cEnd hr rfl (pa_cons (pe_op op_add_str (pv 5) (pv 7)) (pa_cons (pv 1) pa_nil))))
              (pss_one (ps_dput hu (pv 4) (pv 9) (pe_op op_add (pe_dget2 hu (pv 4) (pv 9) pe_int ⟨rfl,rfl,rfl,rfl⟩) (pe_cal cL hr rfl (pa_cons (pv 6) (pa_cons (pv 8) pa_nil)))) rfl)))
              pss_nil)))))))
      (pss_one (ps_ret (pv 4)))),?_⟩
    intro fo hfo
    have sH1:Same H (upd H fo (.dK [])):=Same.upd1 hfo
    have hd1:=sH1 _ _ hsd
    have hsfo:fo≠sd:=(ne_of_none hsd hfo).symm
    refine ⟨sd,_,hd1,?_⟩
    refine ⟨_,rfl,.inr (.inr (.inl ⟨rfl,.inl ⟨_,hd1⟩⟩)),sd,_,rfl,rfl,hd1,fun p hp=>?_⟩
    have hpfo:p≠fo:=fun z=>by subst z; rw [upd_same] at hp; cases hp
    have sH2:Same (upd H fo (.dK [])) (upd (upd H fo (.dK [])) p (VW p sd)):=Same.upd1 hp
    refine ⟨p,sd,_,rfl,upd_same,sH2 _ _ hd1,fun ob=>?_⟩
    generalize hH3:upd (upd (upd H fo (.dK [])) p (VW p sd)) sd (.frz ob (.dK (rowV ss))) = H3
    have s3:Same (upd H sd (.frz ob (.dK (rowV ss)))) H3:=fun b u e=>by
      rw [← hH3]
      by_cases hb:b = sd
      · subst hb; rw [upd_same] at e ⊢; exact e
      · rw [upd_ne hb] at e ⊢
        exact sH2 _ _ (sH1 _ _ e)
    have hfo3:H3 fo = some (.dK (rowV [])):=by
      rw [← hH3,upd_ne hsfo,upd_ne hpfo.symm,upd_same]; rfl
    have hfo0:upd H sd (.frz ob (.dK (rowV ss))) fo = none:=by rw [upd_ne hsfo]; exact hfo
    have h72:=pairs72L hb
    have hsl:=hss.len
    refine for_items (fun i σ H'=>(∃ x5 x6 x7 x8 x9:Option V,σ = [some (.ref pd),some (.int o),some (.ref sd),some (sv x),some (.ref fo),x5,x6,x7,x8,x9])∧Same (upd H sd (.frz ob (.dK (rowV ss)))) H'∧H' fo = some (.dK (rowV (agg ((ss.take i).flatMap (outs (nxOf (pairsB o bk)) ff o x))))))
      ⟨⟨_,_,_,_,_,rfl⟩,s3,hfo3⟩ (fun i σ H' _ h=>h.2.1 _ _ upd_same) ?_ ?_
    · rintro i q T σ H' Nx hN hq ⟨⟨x5,x6,x7,x8,x9,rfl⟩,sm,hR⟩ hT
      unfold rowV encD encK at hq
      rw [List.getElem?_map,List.getElem?_map] at hq
      cases ei:ss[i]? with
      | none=>rw [ei] at hq; cases hq
      | some p0 =>
      rw [ei] at hq
      have hq2:q = (Sum.inr (tx p0.1),V.int p0.2):=(Option.some.inj hq).symm
      subst hq2
      have hmem:p0∈ss:=List.mem_of_getElem? ei
      have hi:i < ss.length:=(List.getElem?_eq_some_iff.mp ei).1
      have sne:ss≠[]:=fun z=>by rw [z] at hmem; cases hmem
      have etk:(ss.take (i + 1)).flatMap (outs (nxOf (pairsB o bk)) ff o x) = (ss.take i).flatMap (outs (nxOf (pairsB o bk)) ff o x) ++ outs (nxOf (pairsB o bk)) ff o x p0:=by
        rw [List.take_succ_eq_append_getElem hi,(List.getElem?_eq_some_iff.mp ei).2,List.flatMap_append]; simp
      have hCr:∀ c∈(ss.take i).flatMap (outs (nxOf (pairsB o bk)) ff o x),∃ l,(c.1,l)∈pairsB o bk:=fun c hc=>by
        obtain ⟨p1,_,hc1⟩:=List.mem_flatMap.mp hc
        exact out_row hc1
      generalize (ss.take i).flatMap (outs (nxOf (pairsB o bk)) ff o x) = C0 at hR etk hCr
      obtain ⟨l0,hl0⟩:=hss.rows p0 hmem
      have hel:p0.1.length≤3:=by have:=pair_end hl0; have:=hb.o3; omega
      have pne:pd≠sd:=fun z=>by
        obtain ⟨pa,_,h2,_⟩:=hP
        rw [z,hsd] at h2
        exact ref_int (fun a=>⟨_,rfl⟩) (HO.dK.inj (Option.some.inj h2)) sne
      obtain ⟨ra,kv,g1,g2,g3,g4,g5⟩:=hP.row hl0
      have rne:ra≠sd:=fun z=>by
        rw [z,hsd] at g3
        have h2:=HO.dK.inj (Option.some.inj g3)
        cases kv with
        | nil=>exact sne (List.map_eq_nil_iff.mp (List.map_eq_nil_iff.mp h2))
        | cons q kv =>
          cases ss with
          | nil=>exact sne rfl
          | cons p ss =>
            have h3:=(Prod.mk.inj (List.cons.inj h2).1).2
            obtain ⟨a,ha,_⟩:=g5 q (List.mem_cons_self ..)
            have h4:V.int p.2 = q.2:=h3
            rw [ha] at h4; cases h4
      refine ⟨T,[sv p0.1,.int p0.2],rfl,.of upd_same,rfl,_,_,rfl,_,_,rfl,rfl,?_⟩
      generalize hH4:upd H' T (HO.tup [kV ((Sum.inr (tx p0.1):Key),V.int p0.2).1,((Sum.inr (tx p0.1):Key),V.int p0.2).2]) = H4
      have s4:Same H' H4:=by rw [← hH4]; exact Same.upd1 hT
      have sm4:=sm.trans s4
      have at4:∀ b u,b≠sd→H b = some u→H4 b = some u:=fun b u hb' e=>sm4 _ _ (by rw [upd_ne hb']; exact e)
      have hra4:=at4 _ _ rne g3
      have hR4:=s4 _ _ hR
      have dg4:DGet H4 pd (sv p0.1) (some (.ref ra)):=by
        rcases g1 with ⟨kvs,kk,e1,e2,e3⟩ | ⟨kvs,kk,b,e1,e2,_⟩
        · refine .inl ⟨kvs,kk,?_,e2,e3⟩
          rcases e1 with e1 | ⟨o',e1⟩
          · exact .inl (at4 _ _ pne e1)
          · exact .inr ⟨o',at4 _ _ pne e1⟩
        · cases e2
      have sx4:SameX sd H H4:=fun b u hb' e=>at4 b u hb' e
      have fr4:∀ q∈kv,FrA K H4 q.2 (ff p0.1 q.1):=fun q hq=>sx4.frA (notTup hsd) (g5 q hq)
      have rafo:ra≠fo:=fun z=>by rw [z,hfo] at g3; cases g3
      refine ⟨ra,_,hra4,?_⟩
      refine ⟨_,rfl,_,rfl,pd,.ref ra,rfl,dg4,.inr (.inr (.inl ⟨rfl,.inl ⟨_,hra4⟩⟩)),ra,_,rfl,rfl,hra4,fun p2 hp2=>?_⟩
      have s5:Same H4 (upd H4 p2 (VW p2 ra)):=Same.upd1 hp2
      refine ⟨p2,ra,_,rfl,upd_same,s5 _ _ hra4,fun ob2=>?_⟩
      generalize hH5:upd (upd H4 p2 (VW p2 ra)) ra (.frz ob2 (.dK (encD id kv))) = H5
      have h5ra:H5 ra = some (.frz ob2 (.dK (encD id kv))):=by rw [← hH5,upd_same]
      have sx5:SameX ra H4 H5:=fun b u hb' e=>by rw [← hH5,upd_ne hb']; exact s5 _ _ e
      have hR5:H5 fo = some (.dK (rowV (agg C0))):=sx5 _ _ rafo.symm hR4
      have fr5:∀ q∈kv,FrA K H5 q.2 (ff p0.1 q.1):=fun q hq=>sx5.frA (notTup hra4) (fr4 q hq)
      have hkl:kv.length≤(pairsB o bk).length:=by
        have h1:=row_len (pairsB o bk) p0.1
        have h2:(kv.map (·.1)).length = ((rowOf (pairsB o bk) p0.1).map (·.1)).length:=by rw [g4]
        rw [List.length_map,List.length_map] at h2
        omega
      refine for_items (fun j σ H6=>(∃ x7 x8 x9:Option V,σ = [some (.ref pd),some (.int o),some (.ref sd),some (sv x),some (.ref fo),some (sv p0.1),some (.int p0.2),x7,x8,x9])∧SameX fo H5 H6 ∧
          H6 fo = some (.dK (rowV (agg (C0 ++ (((nxOf (pairsB o bk) p0.1).take j).filter (mf x)).map fun l=>(endOf (p0.1 ++ l) o,lft p0.2 (ff p0.1 l)))))))
        ⟨⟨_,_,_,rfl⟩,SameX.refl _,by simpa using hR5⟩ (fun j σ H6 _ h=>h.2.1 _ _ rafo h5ra) ?_ ?_
      · rintro j q T2 σ H6 Nx2 hN2 hq ⟨⟨x7,x8,x9,rfl⟩,sx,hR6⟩ hT2
        unfold encD encK at hq
        rw [List.getElem?_map,List.getElem?_map] at hq
        cases el:kv[j]? with
        | none=>rw [el] at hq; cases hq
        | some q0 =>
        rw [el] at hq
        have hq2:q = (Sum.inr (tx q0.1),q0.2):=(Option.some.inj hq).symm
        subst hq2
        have hqm:q0∈kv:=List.mem_of_getElem? el
        have hnx:(nxOf (pairsB o bk) p0.1)[j]? = some q0.1:=by rw [← g4,List.getElem?_map,el]; rfl
        have hj:j < (nxOf (pairsB o bk) p0.1).length:=(List.getElem?_eq_some_iff.mp hnx).1
        have hlm:q0.1∈nxOf (pairsB o bk) p0.1:=List.mem_of_getElem? hnx
        have hl1:q0.1.length≤1:=pairB_one ((nxOf_mem _ _ _).mp hlm)
        have etk2:(nxOf (pairsB o bk) p0.1).take (j + 1) = (nxOf (pairsB o bk) p0.1).take j ++ [q0.1]:=by
          rw [List.take_succ_eq_append_getElem hj,(List.getElem?_eq_some_iff.mp hnx).2]
        refine ⟨T2,[sv q0.1,q0.2],rfl,.of upd_same,rfl,_,_,rfl,_,_,rfl,rfl,?_⟩
        generalize hH7:upd H6 T2 (HO.tup [kV ((Sum.inr (tx q0.1):Key),q0.2).1,((Sum.inr (tx q0.1):Key),q0.2).2]) = H7
        have s7:Same H6 H7:=by rw [← hH7]; exact Same.upd1 hT2
        refine ⟨_,rfl,_,rfl,q0.1,x,rfl,fun H8 s8=>⟨mf x q0.1,rfl,?_⟩⟩
        have s78:=s7.trans s8
        have hR8:=s78 _ _ hR6
        have sx8:SameX fo H5 H8:=sx.trans (SameX.of s78)
        refine ite2 (fun hm=>?_) (fun hm=>?_)
        · have hcl:(tx p0.1).length + (tx q0.1).length≤sizeLine:=by rw [tx_len,tx_len,sizeLine_eq]; omega
          have hll:(p0.1 ++ q0.1).length≤64:=by rw [List.length_append]; omega
          refine ⟨_,rfl,_,rfl,tx p0.1,tx q0.1,rfl,rfl,hcl,_,rfl,p0.1 ++ q0.1,o,by rw [tx_app]; rfl,hb.o1,hll,?_⟩
          generalize hLL:C0 ++ (((nxOf (pairsB o bk) p0.1).take j).filter (mf x)).map (fun l=>(endOf (p0.1 ++ l) o,lft p0.2 (ff p0.1 l))) = LL at hR8
          have hLr:∀ c∈LL,∃ l,(c.1,l)∈pairsB o bk:=fun c hc=>by
            rw [← hLL] at hc
            rcases List.mem_append.mp hc with z | z
            · exact hCr c z
            · obtain ⟨l,hl,rfl⟩:=List.mem_map.mp z
              obtain ⟨z1,z2⟩:=List.mem_filter.mp hl
              exact out_row (f:=ff) (x:=x) (p:=p0) (List.mem_map.mpr ⟨l,List.mem_filter.mpr ⟨List.mem_of_mem_take z1,z2⟩,rfl⟩)
          obtain ⟨knd,ksub⟩:=agg_keys LL
          have hal:(agg LL).length≤(pairsB o bk).length:=by
            have h1:=nd_le ((agg LL).map (·.1)) ((pairsB o bk).map (·.1)) knd fun e he=>by
              obtain ⟨c,hc,rfl⟩:=List.mem_map.mp (ksub e he)
              obtain ⟨l,hl⟩:=hLr c hc
              exact List.mem_map.mpr ⟨_,hl,rfl⟩
            rw [List.length_map,List.length_map] at h1
            exact h1
          have fr8:FrA K H8 q0.2 (ff p0.1 q0.1):=sx8.frA (notTup hR5) (fr5 q0 hqm)
          obtain ⟨b1,b2,b3,b4⟩:=hS p0.1 q0.1
          refine ⟨_,rfl,fo,rfl,.inl ⟨_,.inl hR8⟩,_,rfl,_,DGet.k (k:=Sum.inr (tx (endOf (p0.1 ++ q0.1) o))) hR8,_,rfl,_,rfl,p0.2,q0.2,ff p0.1 q0.1,rfl,fr8,b1,b2,b3,b4,?_⟩
          refine ⟨(getA (agg LL) (endOf (p0.1 ++ q0.1) o)).getD 0,_,?_,rfl,?_⟩
          · show (valV (encD V.int (agg LL)) _).getD (V.int 0) = _
            rw [val_enc]
            cases getA (agg LL) (endOf (p0.1 ++ q0.1) o) <;> rfl
          refine ⟨_,rfl,_,rfl,fo,_,rfl,DPut.k (k:=Sum.inr (tx (endOf (p0.1 ++ q0.1) o))) hR8 (by show (encD V.int (agg LL)).length < _; rw [encD_len,sizeLine_eq]; omega),hN2 _ _ ⟨⟨_,_,_,rfl⟩,sx8.updf,?_⟩⟩
          rw [upd_same]
          have e1:=put_enc V.int (agg LL) (endOf (p0.1 ++ q0.1) o) ((getA (agg LL) (endOf (p0.1 ++ q0.1) o)).getD 0 + lft p0.2 (ff p0.1 q0.1)) knd
          refine congrArg (fun z=>some (HO.dK z)) (e1.trans ?_)
          have e2:C0 ++ (((nxOf (pairsB o bk) p0.1).take (j + 1)).filter (mf x)).map (fun l=>(endOf (p0.1 ++ l) o,lft p0.2 (ff p0.1 l))) = LL ++ [(endOf (p0.1 ++ q0.1) o,lft p0.2 (ff p0.1 q0.1))]:=by
            rw [etk2,List.filter_append,List.map_append,← List.append_assoc,hLL]
            simp [hm]
          rw [e2]
          unfold agg
          rw [List.foldl_append]
          rfl
        · have hm':mf x q0.1 = false:=by simpa using hm
          refine hN2 _ _ ⟨⟨_,_,_,rfl⟩,sx8,?_⟩
          rw [etk2,List.filter_append]
          simpa [hm'] using hR8
      · rintro σ H6 ⟨⟨x7,x8,x9,rfl⟩,sx,hR6⟩
        refine ⟨ob2,sx _ _ rafo h5ra,hN _ _ ⟨⟨_,_,_,_,_,rfl⟩,fun c u e=>?_,?_⟩⟩
        · have hcf:c≠fo:=fun z=>by rw [z,hfo0] at e; cases e
          have e4:=sm4 _ _ e
          by_cases hc:c = ra
          · subst hc
            rw [upd_same,← e4,hra4]
          · rw [upd_ne hc]
            exact sx _ _ hcf (sx5 _ _ hc e4)
        · rw [upd_ne rafo.symm]
          have e1:(encD id kv).length = (nxOf (pairsB o bk) p0.1).length:=by
            rw [encD_len,← g4,List.length_map]
          rw [e1,List.take_length] at hR6
          rw [etk]
          exact hR6
    · rintro σ H' ⟨⟨x5,x6,x7,x8,x9,rfl⟩,sm,hR⟩
      refine ⟨ob,sm _ _ upd_same,_,rfl,?_⟩
      have sfin:Same H (upd H' sd (.dK (rowV ss))):=Same.thaw sm hsd
      refine k fo _ sfin hfo ?_
      rw [upd_ne hsfo]
      have e1:(rowV ss).length = ss.length:=encD_len _ _
      rw [e1,List.take_length] at hR
      exact hR
end
end Kn.Ln
end
section
set_option Elab.async false
set_option linter.all false
set_option maxRecDepth 100000
set_option maxHeartbeats 1000000
namespace Kn.Ln
open PySem L2 Kn
theorem ys2L {ys:St} (h:ys.length = 2):∃ y z,ys = [y,z]:=by
  match ys,h with
  | [y,z],_=>exact ⟨y,z,rfl⟩
theorem start_row {o:Nat} {bk:List S} (hb:Bk bk o):∃ l,(([]:S),l)∈pairsB o bk:=by
  have h1:=hb.lo
  match bk,h1 with
  | x :: bk,_ =>
    refine ⟨(x.drop 0).take 1,List.mem_flatMap.mpr ⟨x,List.mem_cons_self ..,List.mem_map.mpr ⟨0,List.mem_range.mpr (by omega),?_⟩⟩⟩
    rw [List.take_zero]
    have:endOf ([]:S) o = []:=by unfold endOf; simp
    rw [this]
def lastQ (ps:List (S × S)) (f:S→S→Int × Int) (e:S):Int × Int:=if (e,[])∈ps then f e [] else (0,1)
theorem sums_start {o:Nat} {bk:List S} (hb:Bk bk o) (wt:Int):SumsOk (pairsB o bk) [([],wt)]:=by
  refine ⟨by simp,fun p hp=>?_⟩
  rw [List.mem_singleton.mp hp]
  exact start_row hb
section
variable {P:Program} {w:World} {K:PySem.W.Frag} {mg:Str→Option Value} {base:Heap}
abbrev sSumA:Stmt:=top 48
theorem scSumA:FnScope ["parts", "order", "weight", "pattern", "sums", "wanted"] ["parts", "order", "weight", "pattern"] (defScope sSumA):=⟨rfl,rfl,rfl,by decide +kernel,rfl,by decide +kernel,by decide +kernel⟩
theorem ndSA:(["parts", "end", "heavy"]:List Str).Nodup:=by decide +kernel
def spSumA (K:PySem.W.Frag):Sp:=fun vs H Q _=>∃ (pd pl:Addr) (o:Nat) (bk:List S) (f:S→S→Int × Int) (wt:Int) (pat:List S),vs = [.ref pd,.int o,.int wt,.ref pl]∧Bk bk o∧PartsAt K H pd (pairsB o bk) f∧Smf f∧H pl = some (.lst (pat.map sv))∧pat.length≤900 ∧
  ∀ H',Same H H'→Q (.int (tots (fun e h=>lft h (lastQ (pairsB o bk) f e)) (Ss (nxOf (pairsB o bk)) f o wt pat))) H'
theorem ok_sumA {f:Addr} {fd:FuncData} (F:Fun K "sum_along" "sum_along" sSumA f fd) (B:Blt mg) (C:Cst2 K mg) (cN:Cal P w K mg base 2 "next_sums" ["parts", "order", "sums", "wanted"] (spNextS K)) (cL:Cal P w K mg base 1 "left_of" ["weight", "part"] (spLeft K)) :
    FnOk P w K mg base CX0 3 f fd ["parts", "order", "weight", "pattern"] (spSumA K):=by
  obtain ⟨aN,hN,tN⟩:=C.nought
  refine F.ok scSumA (fun vs H Q E h=>?_) (fun cdv A outer s H vs Q E hr h=>?_)
  · obtain ⟨pd,pl,o,bk,f,wt,pat,rfl,_⟩:=h; rfl
  · obtain ⟨pd,pl,o,bk,ff,wt,pat,rfl,hb,hP,hS,hpl,hpn,k⟩:=h
    have hu:=hu_of hr
    have nd:=scSumA.nd
    have r1:=hr.mono (j:=1) (by decide)
    refine ⟨_,pss_cons (ps_set (i:=4) nd rfl (Or.inl rfl) (pe_dispK pe_str (pv 2)))
      (pss_cons (ps_for PassesOwn.never rfl (pi_list (pv 3)) (pg_name (i:=5) nd rfl (Or.inl rfl))
          (pss_one (ps_set (i:=4) nd rfl (Or.inl rfl) (pe_cal cN hr rfl (pa_cons (pv 0) (pa_cons (pv 1) (pa_cons (pv 4) (pa_cons (pv 5) pa_nil))))))))
      (pss_one (ps_ret (pe_callB (call_sum rfl) (by rfl) B.sum PyProof.Rows.boot_sum (pa_cons
        (pe_thaw (pe_comp (N:=["parts", "end", "heavy"]) (caps:=[0]) rfl (compScope_of (by kernel_rfl)) (pi_items (pe_bm0K K rfl PySem.F.plainAttrs_dict PySem.F.slot_dict_items PySem.F.type_dict_items mt_items (pv 4)))
          (fun cl X s H ex=>pg_tupK K 2 rfl rfl (pgs_cons (pg_name (i:=1) ndSA rfl (Or.inl rfl)) (pgs_cons (pg_name (i:=2) ndSA rfl (Or.inl rfl)) pgs_nil)) rfl rfl) (fun cl X s H ex=>pf_nil)
          (fun cl X s H ex=>pe_cal cL r1 rfl (pa_cons (pv 2) (pa_cons (pe_dget2 hu (pe_dget hu (pv 0) (pv 1) (fun _ _=>rfl)) pe_str (pe_glob (v:=.ref aN) (by rfl) hN rfl) ⟨rfl,rfl,rfl,rfl⟩) pa_nil))))) pa_nil))))),?_⟩
    intro sd0 hsd0
    have u0:Same H (upd H sd0 (.dK [])):=Same.upd1 hsd0
    refine ⟨_,rfl,upd_same,Sum.inr (tx []),rfl,?_⟩
    have hs0:upd (upd H sd0 (.dK [])) sd0 (.dK [((Sum.inr (tx []):Key),V.int wt)]) sd0 = some (.dK (rowV [([],wt)])):=by rw [upd_same]; rfl
    have u1:Same H (upd (upd H sd0 (.dK [])) sd0 (.dK [((Sum.inr (tx []):Key),V.int wt)])):=fun b u e=>by
      rw [upd_ne (ne_of_none e hsd0)]; exact u0 _ _ e
    generalize upd (upd H sd0 (.dK [])) sd0 (.dK [((Sum.inr (tx []):Key),V.int wt)]) = H1 at hs0 u1
    refine ⟨_,rfl,pl,rfl,⟨_,.of (u1 _ _ hpl)⟩,?_⟩
    refine for_known (known_list K pl (pat.map sv)) (fun i σ H'=>∃ (sd:Addr) (x5:Option V),σ = [some (.ref pd),some (.int o),some (.int wt),some (.ref pl),some (.ref sd),x5]∧H' sd = some (.dK (rowV (Ss (nxOf (pairsB o bk)) ff o wt (pat.take i))))∧SumsOk (pairsB o bk) (Ss (nxOf (pairsB o bk)) ff o wt (pat.take i))∧Same H H')
      ⟨sd0,_,rfl,hs0,sums_start hb wt,u1⟩ (fun i σ H' _ h=>.of (h.choose_spec.choose_spec.2.2.2 _ _ hpl)) ?_ ?_
    · rintro i y σ H' Nx hNx hy ⟨sd,x5,rfl,hsd,hok,sm⟩
      rw [List.getElem?_map] at hy
      cases ei:pat[i]? with
      | none=>rw [ei] at hy; cases hy
      | some wd =>
      rw [ei] at hy
      have hy2:y = sv wd:=(Option.some.inj hy).symm
      subst hy2
      have hi:i < pat.length:=(List.getElem?_eq_some_iff.mp ei).1
      have etk:pat.take (i + 1) = pat.take i ++ [wd]:=by rw [List.take_succ_eq_append_getElem hi,(List.getElem?_eq_some_iff.mp ei).2]
      refine ⟨_,rfl,_,rfl,_,rfl,_,rfl,pd,sd,o,bk,ff,_,wd,rfl,hb,hP.same sm,hS,hsd,hok,fun fo H2 s2 hfo h2=>hNx _ _ ⟨fo,_,rfl,?_,?_,sm.trans s2⟩⟩
      · rw [etk,Ss_snoc]; exact h2
      · rw [etk,Ss_snoc]; exact hok.step
    · rintro σ H' ⟨sd,x5,rfl,hsd,hok,sm⟩
      rw [List.length_map,List.take_length] at hsd hok
      have hres:=fun H2 (s2:Same H' H2)=>k H2 (sm.trans s2)
      have hP':=hP.same sm
      generalize Ss (nxOf (pairsB o bk)) ff o wt pat = ss at hsd hok hres
      refine ⟨sd,_,hsd,?_⟩
      refine ⟨_,rfl,.inr (.inr (.inl ⟨rfl,.inl ⟨_,hsd⟩⟩)),sd,_,rfl,rfl,hsd,fun p hp=>?_⟩
      have s1:Same H' (upd H' p (VW p sd)):=Same.upd1 hp
      refine ⟨p,sd,_,rfl,upd_same,s1 _ _ hsd,fun ob=>?_⟩
      have h72:=pairs72L hb
      have hsl:=hok.len
      have hlen:(rowV ss).length = ss.length:=encD_len _ _
      generalize hH2:upd (upd H' p (VW p sd)) sd (.frz ob (.dK (rowV ss))) = H2
      have s2:Same (upd H' sd (.frz ob (.dK (rowV ss)))) H2:=fun b u e=>by
        rw [← hH2]
        by_cases hb':b = sd
        · subst hb'; rw [upd_same] at e ⊢; exact e
        · rw [upd_ne hb'] at e ⊢
          exact s1 _ _ e
      refine comp_items [some (.ref pd)] 2 (by rw [hlen]; omega) (fun i acc H3=>Same (upd H' sd (.frz ob (.dK (rowV ss)))) H3∧acc = ((ss.take i).map fun q=>lft q.2 (lastQ (pairsB o bk) ff q.1)).map V.int)
        ⟨s2,rfl⟩ (fun i acc H3 _ h=>⟨h.1 _ _ upd_same,by rw [h.2,List.length_map,List.length_map,List.length_take]; omega⟩) ?_ ?_
      · rintro i q T acc H3 ys Nx2 hN2 hq hy ⟨sm3,rfl⟩ hT
        obtain ⟨y1,y2,rfl⟩:=ys2L hy
        unfold rowV encD encK at hq
        rw [List.getElem?_map,List.getElem?_map] at hq
        cases ei:ss[i]? with
        | none=>rw [ei] at hq; cases hq
        | some p0 =>
        rw [ei] at hq
        have hq2:q = (Sum.inr (tx p0.1),V.int p0.2):=(Option.some.inj hq).symm
        subst hq2
        have hmem:p0∈ss:=List.mem_of_getElem? ei
        have hi:i < ss.length:=(List.getElem?_eq_some_iff.mp ei).1
        have etk:ss.take (i + 1) = ss.take i ++ [p0]:=by rw [List.take_succ_eq_append_getElem hi,(List.getElem?_eq_some_iff.mp ei).2]
        have sne:ss≠[]:=fun z=>by rw [z] at hmem; cases hmem
        obtain ⟨l0,hl0⟩:=hok.rows p0 hmem
        have pne:pd≠sd:=fun z=>by
          obtain ⟨pa,_,h2,_⟩:=hP'
          rw [z,hsd] at h2
          exact ref_int (fun a=>⟨_,rfl⟩) (HO.dK.inj (Option.some.inj h2)) sne
        obtain ⟨ra,kv,g1,g2,g3,g4,g5⟩:=hP'.row hl0
        have rne:ra≠sd:=fun z=>by
          rw [z,hsd] at g3
          have h2:=HO.dK.inj (Option.some.inj g3)
          cases kv with
          | nil=>exact sne (List.map_eq_nil_iff.mp (List.map_eq_nil_iff.mp h2))
          | cons q kv =>
            cases ss with
            | nil=>exact sne rfl
            | cons p ss =>
              have h3:=(Prod.mk.inj (List.cons.inj h2).1).2
              obtain ⟨a,ha,_⟩:=g5 q (List.mem_cons_self ..)
              have h4:V.int p.2 = q.2:=h3
              rw [ha] at h4; cases h4
        refine ⟨T,[sv p0.1,.int p0.2],rfl,.of upd_same,rfl,_,_,rfl,_,_,rfl,rfl,?_⟩
        generalize hH4:upd H3 T (HO.tup [kV ((Sum.inr (tx p0.1):Key),V.int p0.2).1,((Sum.inr (tx p0.1):Key),V.int p0.2).2]) = H4
        have s4:Same H3 H4:=by rw [← hH4]; exact Same.upd1 hT
        have sm4:=sm3.trans s4
        have at4:∀ b u,b≠sd→H' b = some u→H4 b = some u:=fun b u hb' e=>sm4 _ _ (by rw [upd_ne hb']; exact e)
        have hra4:=at4 _ _ rne g3
        have dg4:DGet H4 pd (sv p0.1) (some (.ref ra)):=by
          rcases g1 with ⟨kvs,kk,e1,e2,e3⟩ | ⟨kvs,kk,b,e1,e2,_⟩
          · refine .inl ⟨kvs,kk,?_,e2,e3⟩
            rcases e1 with e1 | ⟨o',e1⟩
            · exact .inl (at4 _ _ pne e1)
            · exact .inr ⟨o',at4 _ _ pne e1⟩
          · cases e2
        have sx4:SameX sd H' H4:=fun b u hb' e=>at4 b u hb' e
        have knd:(kv.map (·.1)).Nodup:=by rw [g4]; exact rowOf_nd _ _
        obtain ⟨v,hv,fv,bv⟩:∃ v,(valV (encD id kv) (Sum.inr (tx []))).getD (.ref aN) = v∧FrA K H4 v (lastQ (pairsB o bk) ff p0.1)∧(0≤(lastQ (pairsB o bk) ff p0.1).1∧(lastQ (pairsB o bk) ff p0.1).1 < 1000000∧0 < (lastQ (pairsB o bk) ff p0.1).2∧(lastQ (pairsB o bk) ff p0.1).2 < 1000000):=by
          refine ⟨_,rfl,?_,?_⟩
          · rw [val_enc]
            unfold lastQ
            by_cases c:(p0.1,[])∈pairsB o bk
            · rw [if_pos c]
              have h1:([]:S)∈kv.map (·.1):=by rw [g4]; exact (nxOf_mem _ _ _).mpr c
              obtain ⟨q,hq,e⟩:=List.mem_map.mp h1
              have h2:getA kv [] = some q.2:=(getA_mem knd _ _).mp (by rw [← e]; exact hq)
              rw [h2]
              have h3:=g5 q hq
              rw [e] at h3
              exact sx4.frA (notTup hsd) h3
            · rw [if_neg c]
              have h2:getA kv [] = none:=by
                cases e:getA kv [] with
                | none=>rfl
                | some v =>
                  exfalso
                  have h3:=(getA_mem knd _ _).mpr e
                  exact c ((nxOf_mem _ _ _).mp (by rw [← g4]; exact List.mem_map.mpr ⟨_,h3,rfl⟩))
              rw [h2]
              exact ⟨aN,rfl,tN _⟩
          · unfold lastQ
            split
            · exact hS _ _
            · decide
        refine ⟨_,rfl,_,rfl,_,rfl,pd,.ref ra,rfl,dg4,ra,rfl,.inl ⟨_,.inl hra4⟩,_,DGet.k (k:=Sum.inr (tx [])) hra4,p0.2,v,lastQ (pairsB o bk) ff p0.1,?_,fv,bv.1,bv.2.1,bv.2.2.1,bv.2.2.2,?_⟩
        · rw [← hv]; rfl
        · refine hN2 _ _ [some (sv p0.1),some (.int p0.2)] rfl ⟨sm4,?_⟩
          rw [etk,List.map_append,List.map_append]; rfl
      · rintro acc H3 ⟨sm3,rfl⟩ D hD
        rw [hlen,List.take_length]
        have hfz:=sm3 _ _ upd_same
        have hneD:sd≠D:=ne_of_none hfz hD
        have sD:Same H3 (upd H3 D (.lst ((ss.map fun q=>lft q.2 (lastQ (pairsB o bk) ff q.1)).map V.int))):=Same.upd1 hD
        refine ⟨ob,by rw [upd_ne hneD]; exact hfz,?_⟩
        have s7:Same H' (upd (upd H3 D (.lst ((ss.map fun q=>lft q.2 (lastQ (pairsB o bk) ff q.1)).map V.int))) sd (.dK (rowV ss))):=Same.thaw (sm3.trans sD) hsd
        refine ⟨D,_,rfl,.of (by rw [upd_ne hneD.symm,upd_same]),?_⟩
        exact hres _ s7
end
end Kn.Ln
end
section
set_option Elab.async false
set_option linter.all false
set_option maxRecDepth 100000
set_option maxHeartbeats 1000000
namespace L2
open PySem PySem.Spec PyProof.Rows
def Itrs (lo c:Int) (n:Nat):It:=⟨fun i _=>i < n,fun i H x H'=>H' = H∧x = .int (lo + (i:Int) * c),fun i _=>n≤i⟩
theorem known_rangeS (lo c:Int) (n:Nat):Known (Itrs lo c n) ((List.range n).map fun (i:Nat)=>V.int (lo + (i:Int) * c)) (fun _=>True) :=
  ⟨fun i H _ hi=>by show i < n; simpa using hi,fun i H x H' _ y=>⟨y.1,fun hi=>by
    have hi':i < n:=by simpa using hi
    rw [List.getElem?_map,List.getElem?_range hi',y.2]; rfl⟩,fun H _=>by show n≤_; simp⟩
theorem turn_rangeS {P:Program} {w:World} {K:PySem.W.Frag} {tg:Expr} (it:Addr) (lo c:Int) (n:Nat):Turn P w K tg (Itrs lo c n) [it] it (fun i h=>IsRangeIter h it (lo + (i:Nat) * c) ((n:Int) - (i:Nat)) c) where
  mem:=by simp
  obj:=fun i h st b hb=>by
    have e:b = it:=by simpa using hb
    subst e
    exact ⟨_,st,fun v z=>by
      have z':Data.fields _ = Data.cell v:=z
      cases z'⟩
  keep:=fun i h h' st k=>k it (by simp) _ st
  item:=by
    intro X hP hw hK hc i pins s σ H E I hf st hg
    subst hP hw hK
    obtain ⟨f0,f1,f2,f3,f4,f5⟩:=hf it (by simp)
    have W:=Walks.range (prog:=X.prog) (w:=X.w) (I.ok.hd hc) it lo c n
    refine W.item i s _ _ hg st fun v h' tk hv st' kk=>?_
    obtain ⟨t,rfl⟩:=hv
    have I1:Inv X pins σ H { s with heap:=h',toks:=tk }:=I.turned (fun b o hb e=>kk b o (by simpa using hb) e) f0 f1 f3 f4 f5
    exact ⟨_,rfl,go_of (s:={ s with heap:=h',toks:=tk }) (n := "range_iterator") st' rfl rfl (by decide) ⟨.int (lo + i * c),H,I1,⟨t,rfl⟩,⟨rfl,rfl⟩,st',fun b hb=>(hf b hb).1⟩⟩
  done:=by
    intro X hP hw hK hc i pins s σ H E I hf st hg
    subst hP hw hK
    obtain ⟨f0,f1,f2,f3,f4,f5⟩:=hf it (by simp)
    exact wpAny_pyNext_range_end (I.ok.hd hc) st (by have:n≤i:=hg; omega) fun h' eb=>⟨rfl,I.turned (t':=s.toks) (fun b o hb e=>eb b o hb e) f0 f1 f3 f4 f5⟩
  self:=fun _ _ _ _ _ st h=>wpAny_pyIter_rangeiter st h
section
variable {X:Cx} {tg:Expr}
theorem size_down (a b:Int):Builtin.Range.rangeSize a b (-1) = ((a - b).toNat:Int):=by
  unfold Builtin.Range.rangeSize
  rw [if_neg (by decide)]
  split
  · have:(a - b - 1) / (-(-1:Int)) = a - b - 1:=by show (a - b - 1) / 1 = _; exact Int.ediv_one _
    rw [this]; omega
  · omega
theorem small_down {a b:Int} (ha:-1000≤a) (ha':a < 1000) (hb:-1000≤b) (hb':b < 1000):Builtin.Range.small a b (-1) = true:=by
  unfold Builtin.Range.small
  rw [size_down]
  simp only [Builtin.Range.rangeFitsLong,Bool.and_eq_true,Bool.or_eq_true,decide_eq_true_eq,beq_iff_eq]
  refine ⟨by omega,.inr ?_⟩
  rw [if_neg (by decide)]
  simp only [Bool.and_eq_true,decide_eq_true_eq]
  omega
def iRngD (ta:TA):TI:=fun σ H R=>ta σ H fun vs H1=>∃ i j:Int,vs = [.int i,.int j,.int (-1)]∧(-1000≤i∧i < 1000∧-1000≤j∧j < 1000)∧R (Itrs i (-1) (i - j).toNat) H1
theorem pi_rangeD {a b c:Expr} {ta:TA} {p pos:Pos} (hg:Gl X "range") (hm:X.mg "range" = none) (ha:PA X [a,b,c] ta) (hs:starEach [a,b,c] X.env = [(false,eval a X.env),(false,eval b X.env),(false,eval c X.env)]:=by rfl) (hs2:starEach [b,c] X.env = [(false,eval b X.env),(false,eval c X.env)]:=by rfl) :
    PI X tg (.Call (.Name "range" p) [a,b,c] [] pos) (iRngD ta):=by
  intro pins s σ H R I h
  refine Call_ (ld_blt I hg hm boot_range (PyProof.Rows.callWith_type1 (thn (ha pos pins s σ H _ I h) fun us s1 ⟨vs,H1,I1,r1,q1⟩=>?_) (by rw [hs,hs2]) (by rw [hs2]; rfl)))
  obtain ⟨i,j,e,⟨q1,q2,q3,q4⟩,q⟩:=q1
  subst e
  cases r1 with
  | cons r rr =>
    cases rr with
    | cons r' rr =>
      cases rr with
      | cons r'' rr =>
      cases rr
      obtain ⟨t,rfl⟩:=r
      obtain ⟨t',rfl⟩:=r'
      obtain ⟨t'',rfl⟩:=r''
      refine call_range_3 (by decide) ?_ (.inl (PyProof.noPylong_small (by decide)))
      refine wpAny_pyIter_range (IsRange.new ..) (small_down q1 q2 q3 q4) ?_
      have I2:Inv X pins σ H1 { s1 with heap:=s1.heap.push { cls:=.type "range",data:=.fields #[.int i t,.int j t',.int (-1) t''] },toks:=s1.toks }:=I1.kept fun b o e=>Heap.get?_push_of_some _ e
      refine ⟨(s1.heap.push { cls:=.type "range",data:=.fields #[.int i t,.int j t',.int (-1) t''] }).objs.size,[(s1.heap.push { cls:=.type "range",data:=.fields #[.int i t,.int j t',.int (-1) t''] }).objs.size],_,_,H1,rfl,
        I2.kept (t':=s1.toks) fun b o e=>Heap.get?_push_of_some _ e,turn_rangeS _ i (-1) (i - j).toNat,?_,fun b hb=>?_,q⟩
      · have e1:i + ((0:Nat):Int) * (-1) = i:=by simp
        have e2:(((i - j).toNat:Nat):Int) - ((0:Nat):Int) = Builtin.Range.rangeSize i j (-1):=by rw [size_down]; omega
        show IsRangeIter _ _ (i + ((0:Nat):Int) * (-1)) ((((i - j).toNat:Nat):Int) - ((0:Nat):Int)) (-1)
        rw [e1,e2]
        exact Heap.get?_push_size _ rfl
      · have e:b = (s1.heap.push { cls:=.type "range",data:=.fields #[.int i t,.int j t',.int (-1) t''] }).objs.size:=by simpa using hb
        subst e
        exact I2.fpOk (Nat.le_refl _) (I2.hok.fresh (Nat.le_refl _))
end
end L2
end
section
set_option Elab.async false
set_option linter.all false
set_option maxRecDepth 100000
set_option maxHeartbeats 1000000
namespace Kn.Ln
open PySem L2 Kn
theorem op_in_seqK {X:Cx} (K':PySem.W.Frag) (hK:X.K = K'):OpR X (compareOp .In) (rIn K' false):=by
  subst hK
  exact op_in_seq
theorem filter_snocT {α:Type} (p:α→Bool) (l:List α) (a:α) (h:p a = true):(l ++ [a]).filter p = l.filter p ++ [a]:=by
  rw [List.filter_append]; simp [h]
theorem filter_snocF {α:Type} (p:α→Bool) (l:List α) (a:α) (h:p a = false):(l ++ [a]).filter p = l.filter p:=by
  rw [List.filter_append]; simp [h]
section
variable {P:Program} {w:World} {K:PySem.W.Frag} {mg:Str→Option Value} {base:Heap}
abbrev sLT:Stmt:=top 53
theorem scLT:FnScope ["row", "end", "order", "targets"] ["row", "end", "order", "targets"] (defScope sLT):=⟨rfl,rfl,rfl,by decide +kernel,rfl,by decide +kernel,by decide +kernel⟩
theorem ndLT:(["end", "order", "targets", "letter"]:List Str).Nodup:=by decide +kernel
abbrev towB (o:Nat) (e:S) (T:List S) (l:S):Bool:=decide (l≠[]) && decide (endOf (e ++ l) o∈T)
def spLT:Sp:=fun vs H Q _=>∃ (ra tl:Addr) (e:S) (o:Nat) (bk T:List S),vs = [.ref ra,sv e,.int o,.ref tl]∧Bk bk o∧(pairsB o bk).length < 64∧H ra = some (.dK (rowV (rowOf (pairsB o bk) e)))∧e.length≤3∧H tl = some (.lst (T.map sv)) ∧
  ∀ (l:Addr) (out:List S) (H':Hp),Same H H'→H l = none→H' l = some (.lst (out.map sv))→out.Pairwise (· < ·)→(∀ x,x∈out↔x≠[]∧(e,x)∈pairsB o bk∧endOf (e ++ x) o∈T)→Q (.ref l) H'
theorem ok_LT {f:Addr} {fd:FuncData} (F:Fun K "letters_towards" "letters_towards" sLT f fd) (B:Blt mg) (cEnd:Cal P w K mg base 1 "end_of" ["text", "order"] spEnd):FnOk P w K mg base CX0 2 f fd ["row", "end", "order", "targets"] spLT:=by
  refine F.ok scLT (fun vs H Q E h=>?_) (fun cdv A outer s H vs Q E hr h=>?_)
  · obtain ⟨ra,tl,e,o,bk,T,rfl,_⟩:=h; rfl
  · obtain ⟨ra,tl,e,o,bk,T,rfl,hb,h64,hra,hel,htl,k⟩:=h
    have hu:=hu_of hr
    refine ⟨_,pss_one (ps_ret (pe_comp (N:=["end", "order", "targets", "letter"]) (caps:=[1,2,3]) rfl (compScope_of (by kernel_rfl)) (pi_list (pe_callB (call_sortedD rfl) (by rfl) B.sorted PyProof.Rows.boot_sorted (pa_cons (pv 0) pa_nil)))
      (fun cl X s H ex=>pg_name (i:=3) ndLT rfl (Or.inl rfl)) (fun cl X s H ex=>pf_one (PW.pt (pw_and (pt_cmpR op_ne (pv 3) pe_str (nomark _)) (pw_and1 (pt_cmpR (op_in_seqK K rfl) (pe_cal cEnd hr rfl (pa_cons (pe_op op_add_str (pv 0) (pv 3)) (pa_cons (pv 1) pa_nil))) (pv 2) (by with_unfolding_all rfl))))))
      (fun cl X s H ex=>pv 3))),?_⟩
    have ekeys:(((rowOf (pairsB o bk) e).map fun p=>(tx p.1,V.int p.2)).map (·.1)) = (nxOf (pairsB o bk) e).map tx:=by rw [List.map_map,List.map_map]; rfl
    have ndt:(((rowOf (pairsB o bk) e).map fun p=>(tx p.1,V.int p.2)).map (·.1)).Nodup:=by
      rw [ekeys]
      exact List.Pairwise.map tx (fun a b hab z=>hab (tx_inj z)) (rowOf_nd _ _)
    have hrl:(rowOf (pairsB o bk) e).length < 64:=by have:=row_len (pairsB o bk) e; omega
    refine ⟨_,rfl,ra,(rowOf (pairsB o bk) e).map (fun p:S × Int=>(tx p.1,V.int p.2)),rfl,hra,ndt,by rw [List.length_map]; exact hrl,fun out l hperm hsrt hl=>?_⟩
    rw [ekeys] at hperm
    have hperm2:(out.map fun x=>x.cps.toList).Perm (nxOf (pairsB o bk) e):=by
      have:=hperm.map fun x:Str=>x.cps.toList
      rw [List.map_map] at this
      have e1:(nxOf (pairsB o bk) e).map ((fun x:Str=>x.cps.toList) ∘ tx) = nxOf (pairsB o bk) e:=by
        conv=>rhs; rw [← List.map_id (nxOf (pairsB o bk) e)]
        apply List.map_congr_left
        intro x _
        exact tx_cps x
      rw [e1] at this
      exact this
    have hsrt2:(out.map fun x=>x.cps.toList).Pairwise (· < ·):=List.pairwise_map.mpr hsrt
    have eout:out = (out.map fun x=>x.cps.toList).map tx:=(strs_eta out).symm
    generalize (out.map fun x=>x.cps.toList) = os at hperm2 hsrt2 eout
    subst eout
    have hol:os.length < 64:=by have:=hperm2.length_eq; rw [List.length_map] at this; omega
    have sl:Same H (upd H l (.lst ((os.map tx).map V.str))):=Same.upd1 hl
    refine ⟨l,rfl,⟨_,.of upd_same⟩,?_⟩
    have hl6:upd H l (.lst ((os.map tx).map V.str)) l = some (.lst ((os.map tx).map V.str)):=upd_same
    have htl6:=sl _ _ htl
    generalize upd H l (.lst ((os.map tx).map V.str)) = H6 at hl6 htl6 sl
    refine comp_known (known_list K l ((os.map tx).map V.str)) [some (sv e),some (.int o),some (.ref tl)] 1 (by rw [List.length_map,List.length_map]; omega) (fun i acc H'=>H' = H6∧acc = ((os.take i).filter (towB o e T)).map sv)
      ⟨rfl,rfl⟩ (fun i acc H' _ h=>⟨.of (by rw [h.1]; exact hl6),by
        rw [h.2,List.length_map]
        have h1:=List.length_filter_le (towB o e T) (os.take i)
        rw [List.length_take] at h1
        omega⟩) ?_ ?_
    · rintro i y acc H' ys Nx hN hx hy ⟨rfl,rfl⟩
      obtain ⟨y',rfl⟩:=ys1L hy
      rw [List.getElem?_map,List.getElem?_map] at hx
      cases ep:os[i]? with
      | none=>rw [ep] at hx; cases hx
      | some c =>
      rw [ep] at hx
      have hx2:y = sv c:=(Option.some.inj hx).symm
      subst hx2
      have hc1:c.length≤1:=pairB_one ((nxOf_mem _ _ _).mp (hperm2.mem_iff.mp (List.mem_of_getElem? ep)))
      have etk2:os.take (i + 1) = os.take i ++ [c]:=by
        rw [List.take_succ_eq_append_getElem (List.getElem?_eq_some_iff.mp ep).1,(List.getElem?_eq_some_iff.mp ep).2]
      refine ⟨_,rfl,rfl,_,rfl,?_⟩
      by_cases hz:c = []
      · subst hz
        refine iteNS rfl (iteF (hN _ _ [some (sv [])] rfl ⟨rfl,?_⟩))
        rw [etk2,filter_snocF _ _ _ (by simp [towB])]
      · have hne:¬ V.str (tx c) = V.str "" := fun z=>hz (tx_inj (V.str.inj z))
        have hcl:(tx e).length + (tx c).length≤sizeLine:=by rw [tx_len,tx_len,sizeLine_eq]; omega
        have hll:(e ++ c).length≤64:=by rw [List.length_append]; omega
        refine ite_nn hne ⟨_,rfl,_,rfl,tx e,tx c,rfl,rfl,hcl,_,rfl,e ++ c,o,by rw [tx_app]; rfl,hb.o1,hll,_,rfl,tl,bkV T,rfl,.inl (.of htl6),rfl,flat_bkL _,_,rfl,?_⟩
        have e1:(if false = true then !inV (sv (endOf (e ++ c) o)) (bkV T) else inV (sv (endOf (e ++ c) o)) (bkV T)) = decide (endOf (e ++ c) o∈T):=by
          rw [if_neg (by simp),inV_bkL]
        rw [e1]
        by_cases hm:endOf (e ++ c) o∈T
        · refine iteD hm ⟨_,rfl,hN _ _ [some (sv c)] rfl ⟨rfl,?_⟩⟩
          rw [etk2,filter_snocT _ _ _ (by simp [towB,hz,hm]),List.map_append]; rfl
        · refine iteDF hm (hN _ _ [some (sv c)] rfl ⟨rfl,?_⟩)
          rw [etk2,filter_snocF _ _ _ (by simp [towB,hm])]
    · rintro acc H' ⟨rfl,rfl⟩ D hD
      rw [List.length_map,List.length_map,List.take_length]
      have sD:Same H' (upd H' D (.lst ((os.filter (towB o e T)).map sv))):=Same.upd1 hD
      refine k D _ _ (sl.trans sD) (sl.free hD) upd_same (List.Pairwise.filter _ hsrt2) fun x=>?_
      rw [List.mem_filter,hperm2.mem_iff,nxOf_mem,Bool.and_eq_true,decide_eq_true_eq,decide_eq_true_eq]
      exact ⟨fun ⟨a,b,c⟩=>⟨b,a,c⟩,fun ⟨a,b,c⟩=>⟨b,a,c⟩⟩
end
end Kn.Ln
end
section
set_option Elab.async false
set_option linter.all false
set_option maxRecDepth 100000
set_option maxHeartbeats 1000000
namespace Kn.Ln
open PySem L2 Kn
theorem op_neDK {X:Cx} (K':PySem.W.Frag) (hK:X.K = K') (hu:X.A.units + 64 < cLine):OpR X (compareOp .NotEq) (rEqD K' true):=by
  subst hK
  exact op_neD hu
theorem eqv_nilL (ds:List PyData):PyData.eqv (.list ds) (.list []) = ds.isEmpty:=by
  cases ds with
  | nil=>rfl
  | cons d ds=>rfl
theorem set_last {cv:St} {y x:Option V} {m:Nat} (h:cv.length = m):(cv ++ [y]).set m x = cv ++ [x]:=by
  subst h
  rw [List.set_append_right _ _ (Nat.le_refl _),Nat.sub_self]; rfl
theorem get_last {cv:St} {x:Option V} {m:Nat} (h:cv.length = m):(cv ++ [x])[m]? = some x:=by
  subst h
  rw [List.getElem?_append_right (Nat.le_refl _),Nat.sub_self]; rfl
theorem thaw_ends {σ:St} {H:Hp} {Q:V→Hp→Prop} {d:Addr} {ra:List (S × Addr × List (S × Int))} {tc:TT} {caps:List Nat} {m n:Nat} {cv:St} (hσ:σ[0]? = some (some (.ref d)))
    (r2:H d = some (.dK (encD (fun v:Addr × List (S × Int)=>V.ref v.1) ra))) (hlen:ra.length < 1000) (hcv:capStart caps n σ = cv ++ List.replicate 1 none) (hm:cv.length = m) (b:S→Bool)
    (test:∀ (r0:S × Addr × List (S × Int)) (ob:Obj) (H5:Hp) (Z:Bool→Hp→Prop),r0∈ra→Same (upd H d (.frz ob (.dK (encD (fun v:Addr × List (S × Int)=>V.ref v.1) ra)))) H5→(∀ H6,Same H5 H6→Z (b r0.1) H6)→tc (cv ++ [some (sv r0.1)]) H5 Z)
    (k:∀ D H',Same H H'→H D = none→H' D = some (.lst (((ra.map (·.1)).filter b).map sv))→Q (.ref D) H'):tThaw (tComp (iDict (tVar 0)) (gName m) tc (tVar m) caps n) σ H Q:=by
  refine ⟨d,_,r2,_,hσ,d,_,rfl,r2,fun o=>?_⟩
  generalize hkv:encD (fun v:Addr × List (S × Int)=>V.ref v.1) ra = kvs at r2 test
  have hl2:(kvs.map fun p=>kV p.1).length = ra.length:=by rw [List.length_map,← hkv]; exact encD_len _ _
  refine comp_known (known_dict d o kvs) cv 1 (by rw [hl2]; exact hlen) (fun i acc H'=>Same (upd H d (.frz o (.dK kvs))) H'∧acc = (((ra.take i).map (·.1)).filter b).map sv) ⟨Same.refl _,rfl⟩
    (fun i acc H' _ h=>⟨h.1 _ _ upd_same,by
      rw [h.2,List.length_map]
      have h1:=List.length_filter_le b ((ra.take i).map (·.1))
      rw [List.length_map,List.length_take] at h1
      omega⟩) ?_ ?_ hcv
  · rintro i x acc H' ys Nx hN hx hy ⟨sm,rfl⟩
    obtain ⟨y',rfl⟩:=ys1L hy
    rw [← hkv] at hx
    unfold encD encK at hx
    rw [List.getElem?_map,List.getElem?_map,List.getElem?_map] at hx
    cases ei:ra[i]? with
    | none=>rw [ei] at hx; cases hx
    | some r0 =>
    rw [ei] at hx
    have hx2:x = sv r0.1:=(Option.some.inj hx).symm
    subst hx2
    have hi:i < ra.length:=(List.getElem?_eq_some_iff.mp ei).1
    have etk:(ra.take (i + 1)).map (·.1) = (ra.take i).map (·.1) ++ [r0.1]:=by rw [List.take_succ_eq_append_getElem hi,(List.getElem?_eq_some_iff.mp ei).2,List.map_append]; rfl
    show tc ((cv ++ [y']).set m (some (sv r0.1))) H' _
    rw [set_last hm]
    refine test r0 o H' _ (List.mem_of_getElem? ei) sm fun H6 s6=>?_
    cases hbr:b r0.1 with
    | true =>
      refine iteT ⟨_,get_last hm,hN _ _ [some (sv r0.1)] rfl ⟨sm.trans s6,?_⟩⟩
      rw [etk,filter_snocT _ _ _ hbr,List.map_append]; rfl
    | false =>
      refine iteF (hN _ _ [some (sv r0.1)] rfl ⟨sm.trans s6,?_⟩)
      rw [etk,filter_snocF _ _ _ hbr]
  · rintro acc H' ⟨sm,rfl⟩ D hD
    rw [hl2,List.take_length]
    have hfz:=sm _ _ upd_same
    have hne:d≠D:=ne_of_none hfz hD
    have sD:Same H' (upd H' D (.lst (((ra.map (·.1)).filter b).map sv))):=Same.upd1 hD
    have hDH:H D = none:=by
      have h1:=sm.free hD
      rw [upd_ne hne.symm] at h1; exact h1
    exact ⟨o,by rw [upd_ne hne]; exact hfz,k D _ (Same.thaw (sm.trans sD) r2) hDH (by rw [upd_ne hne.symm,upd_same])⟩
theorem end_row {ps:List (S × S)} {ra:List (S × Addr × List (S × Int))} (r1:ra.map (fun r=>(r.1,r.2.2)) = rowsOf ps) (e:S):e∈ra.map (·.1)↔∃ l,(e,l)∈ps:=by
  rw [← (rows_ok ps).has e]
  have hk:ra.map (·.1) = (rowsOf ps).map (·.1):=by rw [← r1,List.map_map]; rfl
  rw [hk]
  constructor
  · intro h
    obtain ⟨q,hq,rfl⟩:=List.mem_map.mp h
    exact ⟨q.2,(getA_mem (rows_ok ps).nd _ _).mp hq⟩
  · rintro ⟨row,h⟩
    exact List.mem_map.mpr ⟨_,(getA_mem (rows_ok ps).nd _ _).mpr h,rfl⟩
theorem dget_row {ps:List (S × S)} {ra:List (S × Addr × List (S × Int))} (r1:ra.map (fun r=>(r.1,r.2.2)) = rowsOf ps) {r:S × Addr × List (S × Int)} (hr:r∈ra):valV (encD (fun v:Addr × List (S × Int)=>V.ref v.1) ra) (Sum.inr (tx r.1)) = some (.ref r.2.1):=by
  have knd:(ra.map (·.1)).Nodup:=by
    have h:=(rows_ok ps).nd
    rw [← r1,List.map_map] at h
    exact h
  rw [val_enc,(getA_mem knd r.1 r.2).mp hr]; rfl
theorem cl_row {ps:List (S × S)} {o:Nat}:∀ {k:Nat} {e:S},Cl ps o k e→∃ l,(e,l)∈ps
  | 0,e,h=>⟨[],h⟩
  | k + 1,e,⟨l,_,h,_⟩=>⟨l,h⟩
theorem let_ok {bk:List S} {o:Nat} (hb:Bk bk o) {e l:S} (h:(e,l)∈pairsB o bk):∀ c∈l,c≤122:=fun c hc=>by
  obtain ⟨nm,hn,hp⟩:=List.mem_flatMap.mp h
  obtain ⟨p,_,e1⟩:=List.mem_map.mp hp
  have e3:(nm.drop p).take 1 = l:=congrArg Prod.snd e1
  rw [← e3] at hc
  exact ((hb.nm nm hn).2.2 c (List.mem_of_mem_drop (List.mem_of_mem_take hc))).2
theorem strs_lay {L:List S} (h:∀ x∈L,∀ c∈x,c≤122):SeqAt.shaped (.list (L.map fun x=>PyData.str (tx x))) = true :=
  (shaped_list fun d hd=>by
    obtain ⟨x,hx,rfl⟩:=List.mem_map.mp hd
    exact ⟨strOk_of (h x hx),by show 0≤10; decide⟩).1
theorem strs_rep {K:PySem.W.Frag} {H:Hp} {l:Addr} {L:List S} (h:H l = some (.lst (L.map sv))):Rep K H (.list (L.map fun x=>PyData.str (tx x))) (.ref l):=by
  refine ⟨l,L.map sv,rfl,.of h,?_⟩
  have:=(Reps.strs (K:=K) (H:=H) (ss:=L.map tx) (xs:=L.map sv)).mpr (by rw [List.map_map]; rfl)
  rw [List.map_map] at this
  exact this
theorem row_has (ps:List (S × S)) (e l:S):(valV (rowV (rowOf ps e)) (Sum.inr (tx l))).isSome = decide ((e,l)∈ps):=by
  show (valV (encD V.int (rowOf ps e)) _).isSome = _
  rw [val_enc,rowOf_get]
  by_cases c:0 < ps.count (e,l)
  · rw [if_pos c,decide_eq_true (List.count_pos_iff.mp c)]; rfl
  · rw [if_neg c,decide_eq_false (fun z=>c (List.count_pos_iff.mpr z))]; rfl
abbrev leadB (ps:List (S × S)) (o:Nat) (T:List S) (e:S):Bool:=!((nxOf ps e).filter (towB o e T)).isEmpty
theorem lead_iff {ps:List (S × S)} {o:Nat} {T:List S} {e:S}:leadB ps o T e = true↔∃ l,l≠[]∧(e,l)∈ps∧endOf (e ++ l) o∈T:=by
  unfold leadB
  rw [Bool.not_eq_true',List.isEmpty_eq_false_iff_exists_mem]
  constructor
  · rintro ⟨l,hl⟩
    obtain ⟨h1,h2⟩:=List.mem_filter.mp hl
    rw [Bool.and_eq_true,decide_eq_true_eq,decide_eq_true_eq] at h2
    exact ⟨l,h2.1,(nxOf_mem _ _ _).mp h1,h2.2⟩
  · rintro ⟨l,h1,h2,h3⟩
    exact ⟨l,List.mem_filter.mpr ⟨(nxOf_mem _ _ _).mpr h2,by rw [Bool.and_eq_true,decide_eq_true_eq,decide_eq_true_eq]; exact ⟨h1,h3⟩⟩⟩
theorem lead_eq {ps:List (S × S)} {o:Nat} {T:List S} {e:S} {out:List S} (h:∀ x,x∈out↔x≠[]∧(e,x)∈ps∧endOf (e ++ x) o∈T):(!out.isEmpty) = leadB ps o T e:=by
  rw [Bool.eq_iff_iff,lead_iff,Bool.not_eq_true',List.isEmpty_eq_false_iff_exists_mem]
  exact ⟨fun ⟨l,hl⟩=>⟨l,(h l).mp hl⟩,fun ⟨l,hl⟩=>⟨l,(h l).mpr hl⟩⟩
def ClAt (H:Hp) (c:Addr) (ps:List (S × S)) (o:Nat) (cl:List (Addr × List S)):Prop:=H c = some (.lst (cl.map fun q=>V.ref q.1))∧∀ (k:Nat) (q:Addr × List S),cl[k]? = some q→q.1≠c∧H q.1 = some (.lst (q.2.map sv))∧∀ e,e∈q.2↔Cl ps o k e
section
variable {P:Program} {w:World} {K:PySem.W.Frag} {mg:Str→Option Value} {base:Heap}
abbrev sCE:Stmt:=top 54
theorem scCE:FnScope ["rows", "order", "length", "closing", "targets"] ["rows", "order", "length"] (defScope sCE):=⟨rfl,rfl,rfl,by decide +kernel,rfl,by decide +kernel,by decide +kernel⟩
theorem ndCE:(["rows", "end"]:List Str).Nodup:=by decide +kernel
theorem ndCF:(["rows", "order", "targets", "end"]:List Str).Nodup:=by decide +kernel
def spCE:Sp:=fun vs H Q _=>∃ (d:Addr) (o n:Nat) (bk:List S),vs = [.ref d,.int o,.int n]∧Bk bk o∧(pairsB o bk).length < 64∧RowsAt H d (pairsB o bk)∧1≤n∧n≤8 ∧
  ∀ (c:Addr) (cl:List (Addr × List S)) (H':Hp),Same H H'→H c = none→ClAt H' c (pairsB o bk) o cl→cl.length = n→Q (.ref c) H'
theorem ok_CE {f:Addr} {fd:FuncData} (F:Fun K "closing_ends" "closing_ends" sCE f fd) (B:Blt mg) (cLT:Cal P w K mg base 2 "letters_towards" ["row", "end", "order", "targets"] spLT):FnOk P w K mg base CX0 3 f fd ["rows", "order", "length"] spCE:=by
  refine F.ok scCE (fun vs H Q E h=>?_) (fun cdv A outer s H vs Q E hr h=>?_)
  · obtain ⟨d,o,n,bk,rfl,_⟩:=h; rfl
  · obtain ⟨d,o,n,bk,rfl,hb,h64,⟨ra,r1,r2,r3⟩,hn1,hn8,k⟩:=h
    have hu:=hu_of hr
    have hun:=hr.units
    have nd:=scCE.nd
    refine ⟨_,pss_cons (ps_set (i:=3) nd rfl (Or.inl rfl) (pe_lst (pa_cons (pe_thaw (pe_comp (N:=["rows", "end"]) (caps:=[0]) rfl (compScope_of (by kernel_rfl)) (pi_dict (pv 0)) (fun cl X s H ex=>pg_name (i:=1) ndCE rfl (Or.inl rfl))
        (fun cl X s H ex=>pf_one (pt_cmp (pc_din hu pe_str (pe_dget hu (pv 0) (pv 1) (fun _ _=>rfl))))) (fun cl X s H ex=>pv 1))) pa_nil)))
      (pss_cons (ps_while PassesOwn.never (pt_cmpR op_lt (pe_callB call_len_seq (by rfl) B.len PySem.boot_len (pa_cons (pv 3) pa_nil)) (pv 2) (nomark _))
        (pss_cons (ps_set (i:=4) nd rfl (Or.inr rfl) (pe_ix ix_list (pv 3) (pe_un un_neg pe_int) (fun _ _=>rfl)))
        (pss_one (ps_expr (pe_bm PySem.F.plainAttrs_list PySem.F.slot_list_append PySem.F.type_list_append mt_append (pv 3) (pa_cons
          (pe_thaw (pe_comp (N:=["rows", "order", "targets", "end"]) (caps:=[0,1,4]) rfl (compScope_of (by kernel_rfl)) (pi_dict (pv 0)) (fun cl X s H ex=>pg_name (i:=3) ndCF rfl (Or.inl rfl))
            (fun cl X s H ex=>pf_one (pt_cmpR (op_neDK K rfl hun) (pe_cal cLT hr rfl (pa_cons (pe_dget hu (pv 0) (pv 3) (fun _ _=>rfl)) (pa_cons (pv 3) (pa_cons (pv 1) (pa_cons (pv 2) pa_nil))))) (pe_lst pa_nil) (nomark _))) (fun cl X s H ex=>pv 3))) pa_nil))))))
      (pss_one (ps_ret (pv 3)))),?_⟩
    have ral:ra.length < 64:=by
      have h1:=keys_len (ps:=pairsB o bk)
      rw [← r1,List.length_map] at h1; omega
    have rne:=row_ne r2 r3
    have dgr:∀ {H0 H5:Hp} {ob:Obj} {r0:S × Addr × List (S × Int)},r0∈ra→H0 d = some (.dK (encD (fun v:Addr × List (S × Int)=>V.ref v.1) ra))→Same (upd H0 d (.frz ob (.dK (encD (fun v:Addr × List (S × Int)=>V.ref v.1) ra)))) H5→DGet H5 d (sv r0.1) (some (.ref r0.2.1)):=fun {H0 H5 ob r0} hr0 _ sm =>
      .inl ⟨_,Sum.inr (tx r0.1),.inr ⟨ob,sm _ _ upd_same⟩,rfl,(dget_row r1 hr0).symm⟩
    refine thaw_ends (d:=d) (ra:=ra) (cv:=[some (.ref d)]) (m:=1) rfl r2 (by omega) rfl rfl (fun e=>decide ((e,[])∈pairsB o bk)) (fun r0 ob H5 Z hr0 sm z=>?_) (fun D H1 s1 hD hD1=>?_)
    · have hrw:H5 r0.2.1 = some (.dK (rowV (rowOf (pairsB o bk) r0.1))):=by
        rw [← row_is r1 hr0]
        exact sm _ _ (by rw [upd_ne (rne r0 hr0)]; exact r3 r0 hr0)
      refine ⟨_,rfl,_,rfl,d,.ref r0.2.1,rfl,dgr hr0 r2 sm,r0.2.1,_,rfl,DGet.k (k:=Sum.inr (tx [])) hrw,_,rfl,?_⟩
      rw [row_has]
      exact z _ (Same.refl _)
    refine ⟨by show 1≤sizeLine; decide,fun c hc=>?_⟩
    have s2:Same H1 (upd H1 c (.lst [V.ref D])):=Same.upd1 hc
    have hcH:H c = none:=s1.free hc
    have hDc:D≠c:=ne_of_none hD1 hc
    have mem0:∀ e,e∈(ra.map (·.1)).filter (fun e=>decide ((e,[])∈pairsB o bk))↔Cl (pairsB o bk) o 0 e:=fun e=>by
      rw [List.mem_filter,end_row r1,decide_eq_true_eq]
      exact ⟨fun h=>h.2,fun h=>⟨⟨[],h⟩,h⟩⟩
    refine ⟨fun m σ H'=>∃ (cl:List (Addr × List S)) (x4:Option V),σ = [some (.ref d),some (.int o),some (.int n),some (.ref c),x4]∧ClAt H' c (pairsB o bk) o cl∧1≤cl.length∧cl.length≤n∧m = n - cl.length∧Same H H',
      ⟨n - 1,[(D,(ra.map (·.1)).filter (fun e=>decide ((e,[])∈pairsB o bk)))],_,rfl,⟨upd_same,fun k q hk=>?_⟩,Nat.le_refl _,hn1,rfl,s1.trans s2⟩,?_⟩
    · cases k with
      | zero =>
        have hq:(D,(ra.map (·.1)).filter (fun e=>decide ((e,[])∈pairsB o bk))) = q:=Option.some.inj hk
        subst hq
        exact ⟨hDc,s2 _ _ hD1,mem0⟩
      | succ k=>simp at hk
    rintro m σ H' ⟨cl,x4,rfl,⟨hcl,hck⟩,hc1,hc2,rfl,sm⟩
    refine ⟨_,rfl,c,_,rfl,.inl (.of hcl),_,rfl,_,_,rfl,rfl,_,rfl,?_⟩
    by_cases hlt:cl.length < n
    · refine iteD (by rw [List.length_map]; omega) ⟨fun σ' H''=>∃ (cl':List (Addr × List S)) (x4:Option V),σ' = [some (.ref d),some (.int o),some (.int n),some (.ref c),x4]∧ClAt H'' c (pairsB o bk) o cl'∧cl'.length = cl.length + 1∧Same H H'',?_,?_⟩
      · rintro σ' H'' ⟨cl',x4',rfl,h1,h2,h3⟩
        exact ⟨n - (cl.length + 1),by omega,cl',_,rfl,h1,by omega,by omega,by omega,h3⟩
      · obtain ⟨cl0,q,rfl⟩:∃ cl0 q,cl = cl0 ++ [q]:=by
          have hne:cl≠[]:=fun z=>by rw [z] at hc1; cases hc1
          exact ⟨cl.dropLast,cl.getLast hne,(List.dropLast_concat_getLast hne).symm⟩
        have hq:(cl0 ++ [q])[cl0.length]? = some q:=by rw [List.getElem?_append_right (Nat.le_refl _),Nat.sub_self]; rfl
        obtain ⟨q1,q2,q3⟩:=hck _ _ hq
        have eat:atI (List.map (fun q:Addr × List S=>V.ref q.1) (cl0 ++ [q])) (-1) = some (V.ref q.1):=by
          rw [List.map_append]
          exact atI_last _ _
        refine ⟨_,rfl,_,rfl,c,_,-1,V.ref q.1,rfl,rfl,.of hcl,eat,?_⟩
        have r2':=sm _ _ r2
        refine ⟨_,rfl,.inl ⟨rfl,_,.of hcl⟩,thaw_ends (d:=d) (ra:=ra) (cv:=[some (.ref d),some (.int o),some (.ref q.1)]) (m:=3) rfl r2' (by omega) rfl rfl (leadB (pairsB o bk) o q.2) (fun r0 ob H5 Z hr0 sm5 z=>?_) (fun D2 H3 s3 hD2 hD3=>?_)⟩
        · have hnd:q.1≠d:=fun z=>by rw [z,r2'] at q2; cases q2
          have hrw:H5 r0.2.1 = some (.dK (rowV (rowOf (pairsB o bk) r0.1))):=by
            rw [← row_is r1 hr0]
            exact sm5 _ _ (by rw [upd_ne (rne r0 hr0)]; exact sm _ _ (r3 r0 hr0))
          obtain ⟨l0,hl0⟩:=(end_row r1 r0.1).mp (List.mem_map.mpr ⟨r0,hr0,rfl⟩)
          have hel:r0.1.length≤3:=by have:=pair_end hl0; have:=hb.o3; omega
          refine ⟨_,rfl,_,rfl,d,.ref r0.2.1,rfl,dgr hr0 r2' sm5,_,rfl,_,rfl,_,rfl,r0.2.1,q.1,r0.1,o,bk,q.2,rfl,hb,h64,hrw,hel,sm5 _ _ (by rw [upd_ne hnd]; exact q2),fun l out H6 s6 hl6 hout hris hmem=>?_⟩
          refine ⟨by show 0≤sizeLine; decide,fun e0 he0=>?_⟩
          have s7:Same H6 (upd H6 e0 (.lst [])):=Same.upd1 he0
          refine ⟨.list (out.map fun x=>PyData.str (tx x)),.list [],strs_rep (s7 _ _ hout),⟨e0,[],rfl,.of upd_same,rfl⟩,strs_lay fun x hx=>let_ok hb ((hmem x).mp hx).2.1,rfl,_,rfl,?_⟩
          have e1:(if true = true then !PyData.eqv (.list (out.map fun x=>PyData.str (tx x))) (.list []) else PyData.eqv (.list (out.map fun x=>PyData.str (tx x))) (.list [])) = leadB (pairsB o bk) o q.2 r0.1:=by
            rw [if_pos rfl,eqv_nilL,List.isEmpty_map]
            exact lead_eq hmem
          rw [e1]
          exact z _ (s6.trans s7)
        · have hcl3:=s3 _ _ hcl
          have hD2c:D2≠c:=fun z=>by rw [z,hcl] at hD2; cases hD2
          refine ⟨c,_,_,rfl,rfl,hcl3,by rw [List.length_map,sizeLine_eq]; omega,(cl0 ++ [q]) ++ [(D2,(ra.map (·.1)).filter (leadB (pairsB o bk) o q.2))],_,rfl,⟨?_,fun k p hk=>?_⟩,by simp,(sm.trans s3).upd_new hcH⟩
          · rw [upd_same,List.map_append (l₁:=cl0 ++ [q])]; rfl
          · by_cases hkl:k < (cl0 ++ [q]).length
            · rw [List.getElem?_append_left hkl] at hk
              obtain ⟨h1,h2,h3⟩:=hck k p hk
              exact ⟨h1,by rw [upd_ne h1]; exact s3 _ _ h2,h3⟩
            · rw [List.getElem?_append_right (by omega)] at hk
              have hk0:k - (cl0 ++ [q]).length = 0:=by
                have:=(List.getElem?_eq_some_iff.mp hk).1
                simp at this
                simp; omega
              rw [hk0] at hk
              have hp:(D2,(ra.map (·.1)).filter (leadB (pairsB o bk) o q.2)) = p:=Option.some.inj hk
              subst hp
              refine ⟨hD2c,by rw [upd_ne hD2c]; exact hD3,fun e=>?_⟩
              have ek:k = cl0.length + 1:=by simp at hk0 hkl; omega
              rw [ek,List.mem_filter,end_row r1,lead_iff]
              show _↔∃ l,l≠[]∧(e,l)∈pairsB o bk∧Cl (pairsB o bk) o cl0.length (endOf (e ++ l) o)
              constructor
              · rintro ⟨_,l,g1,g2,g3⟩
                exact ⟨l,g1,g2,(q3 _).mp g3⟩
              · rintro ⟨l,g1,g2,g3⟩
                exact ⟨⟨l,g2⟩,l,g1,g2,(q3 _).mpr g3⟩
    · refine iteDF (by rw [List.length_map]; omega) ⟨_,rfl,k c cl H' sm hcH ⟨hcl,hck⟩ (by omega)⟩
end
end Kn.Ln
end
section
set_option Elab.async false
set_option linter.all false
set_option maxRecDepth 100000
set_option maxHeartbeats 1000000
namespace Kn.Ln
open PySem L2 Kn
def Abz (bk:List S):Prop:=∀ nm∈bk,∀ c∈nm,c = 97∨c = 98∨c = 122
theorem lets_3 {o:Nat} {bk:List S} (ha:Abz bk) {L:List S} {e:S} (hr:L.Pairwise (· < ·)) (hm:∀ l∈L,l≠[]∧(e,l)∈pairsB o bk):L.length≤3:=by
  refine nd_le L [[97],[98],[122]] (hr.imp fun {a b} h z=>by rw [z] at h; exact s_irr _ h) fun l hl=>?_
  obtain ⟨h1,h2⟩:=hm l hl
  obtain ⟨c,rfl⟩:=one_of (pairB_one h2) h1
  obtain ⟨nm,hn,hp⟩:=List.mem_flatMap.mp h2
  obtain ⟨p,_,e1⟩:=List.mem_map.mp hp
  have e3:(nm.drop p).take 1 = [c]:=congrArg Prod.snd e1
  have hc:c∈nm:=List.mem_of_mem_drop (i:=p) (List.mem_of_mem_take (i:=1) (by rw [e3]; exact List.mem_singleton_self _))
  rcases ha nm hn c hc with rfl | rfl | rfl <;> simp
theorem flat_3 (A:List S) (g:S→List S) (h:∀ t∈A,(g t).length≤3):(A.flatMap g).length≤3 * A.length:=by
  induction A with
  | nil=>simp
  | cons t A ih =>
    rw [List.flatMap_cons,List.length_append,List.length_cons]
    have h1:=h t (List.mem_cons_self ..)
    have h2:=ih fun u hu=>h u (List.mem_cons_of_mem _ hu)
    omega
def LeadL (ps:List (S × S)) (o:Nat) (T:List S) (e:S) (L:List S):Prop:=L.Pairwise (· < ·)∧∀ x,x∈L↔x≠[]∧(e,x)∈ps∧endOf (e ++ x) o∈T
section
variable {P:Program} {w:World} {K:PySem.W.Frag} {mg:Str→Option Value} {base:Heap}
abbrev sLng:Stmt:=top 55
theorem scLng:FnScope ["rows", "order", "texts", "targets", "leading", "end", "row", "longer", "text"] ["rows", "order", "texts", "targets"] (defScope sLng):=⟨rfl,rfl,rfl,by decide +kernel,rfl,by decide +kernel,by decide +kernel⟩
theorem ndLng:(["text", "letter"]:List Str).Nodup:=by decide +kernel
def spLng:Sp:=fun vs H Q _=>∃ (d ta tl:Addr) (o:Nat) (bk A T:List S),vs = [.ref d,.int o,.ref ta,.ref tl]∧Bk bk o∧Abz bk∧(pairsB o bk).length < 64∧RowsAt H d (pairsB o bk)∧H ta = some (.lst (A.map sv))∧H tl = some (.lst (T.map sv))∧A.length≤100000 ∧
  (∀ t∈A,t.length≤8∧∃ l,(endOf t o,l)∈pairsB o bk) ∧
  ∀ (l:Addr) (lt:S→List S) (H':Hp),Same H H'→H l = none→(∀ e,(∃ l,(e,l)∈pairsB o bk)→LeadL (pairsB o bk) o T e (lt e))→H' l = some (.lst ((A.flatMap fun t=>(lt (endOf t o)).map (t ++ ·)).map sv))→Q (.ref l) H'
theorem ok_Lng {f:Addr} {fd:FuncData} (F:Fun K "lengthened" "lengthened" sLng f fd) (cLT:Cal P w K mg base 2 "letters_towards" ["row", "end", "order", "targets"] spLT) (cEnd:Cal P w K mg base 1 "end_of" ["text", "order"] spEnd):FnOk P w K mg base CX0 3 f fd ["rows", "order", "texts", "targets"] spLng:=by
  refine F.ok scLng (fun vs H Q E h=>?_) (fun cdv A outer s H vs Q E hr h=>?_)
  · obtain ⟨d,ta,tl,o,bk,A,T,rfl,_⟩:=h; rfl
  · obtain ⟨d,ta,tl,o,bk,A,T,rfl,hb,habz,h64,⟨ra,r1,r2,r3⟩,hta,htl,hAl,hAr,k⟩:=h
    have hu:=hu_of hr
    have hr1:=hr.mono (j:=1) (by decide)
    have nd:=scLng.nd
    refine ⟨_,pss_cons (ps_set (i:=4) nd rfl (Or.inl rfl) pe_dnewK)
      (pss_cons (ps_thaw (ps_for PassesOwn.never rfl (pi_items (pe_bm0K K rfl PySem.F.plainAttrs_dict PySem.F.slot_dict_items PySem.F.type_dict_items mt_items (pv 0)))
          (pg_tup rfl (pgs_cons (pg_name (i:=5) nd rfl (Or.inl rfl)) (pgs_cons (pg_name (i:=6) nd rfl (Or.inl rfl)) pgs_nil)))
          (pss_one (ps_dput hu (pv 4) (pv 5) (pe_cal cLT hr rfl (pa_cons (pv 6) (pa_cons (pv 5) (pa_cons (pv 1) (pa_cons (pv 3) pa_nil))))) rfl))))
      (pss_cons (ps_set (i:=7) nd rfl (Or.inl rfl) (pe_lst pa_nil))
      (pss_cons (ps_for PassesOwn.never rfl (pi_list (pv 2)) (pg_name (i:=8) nd rfl (Or.inr rfl))
          (pss_one (ps_expr (pe_bm PySem.F.plainAttrs_list PySem.F.slot_list_extend PySem.F.type_list_extend mt_extend (pv 7) (pa_cons
            (pe_comp (N:=["text", "letter"]) (caps:=[8]) rfl (compScope_of (by kernel_rfl)) (pi_list (pe_dget hu (pv 4) (pe_cal cEnd hr1 rfl (pa_cons (pv 8) (pa_cons (pv 1) pa_nil))) (fun _ _=>rfl)))
              (fun cl X s H ex=>pg_name (i:=1) ndLng rfl (Or.inl rfl)) (fun cl X s H ex=>pf_nil) (fun cl X s H ex=>pe_op op_add_str (pv 0) (pv 1))) pa_nil)))))
      (pss_one (ps_ret (pv 7)))))),?_⟩
    intro ld hld
    have sH1:Same H (upd H ld (.dK [])):=Same.upd1 hld
    have hd1:=sH1 _ _ r2
    have hdld:ld≠d:=(ne_of_none r2 hld).symm
    refine ⟨d,_,hd1,?_⟩
    refine ⟨_,rfl,.inr (.inr (.inl ⟨rfl,.inl ⟨_,hd1⟩⟩)),d,_,rfl,rfl,hd1,fun p hp=>?_⟩
    have hppd:p≠ld:=fun z=>by subst z; rw [upd_same] at hp; cases hp
    have sH2:Same (upd H ld (.dK [])) (upd (upd H ld (.dK [])) p (VW p d)):=Same.upd1 hp
    refine ⟨p,d,_,rfl,upd_same,sH2 _ _ hd1,fun ob=>?_⟩
    have rne:=row_ne r2 r3
    generalize hkv:encD (fun v:Addr × List (S × Int)=>V.ref v.1) ra = kvs at r2 hd1
    generalize hH3:upd (upd (upd H ld (.dK [])) p (VW p d)) d (.frz ob (.dK kvs)) = H3
    have s3:Same (upd H d (.frz ob (.dK kvs))) H3:=fun b u e=>by
      rw [← hH3]
      by_cases hb':b = d
      · subst hb'; rw [upd_same] at e ⊢; exact e
      · rw [upd_ne hb'] at e ⊢
        exact sH2 _ _ (sH1 _ _ e)
    have hld3:H3 ld = some (.dK (encD (fun v:Addr × List S=>V.ref v.1) [])):=by
      rw [← hH3,upd_ne hdld,upd_ne hppd.symm,upd_same]; rfl
    have hld0:upd H d (.frz ob (.dK kvs)) ld = none:=by rw [upd_ne hdld]; exact hld
    have ral:ra.length < 64:=by
      have h1:=keys_len (ps:=pairsB o bk)
      rw [← r1,List.length_map] at h1; omega
    have htld:tl≠d:=fun z=>by rw [z,r2] at htl; cases htl
    have knd0:(ra.map (·.1)).Nodup:=by
      have h:=(rows_ok (pairsB o bk)).nd
      rw [← r1,List.map_map] at h
      exact h
    refine for_items (fun i σ H'=>(∃ x5 x6 x7 x8:Option V,σ = [some (.ref d),some (.int o),some (.ref ta),some (.ref tl),some (.ref ld),x5,x6,x7,x8])∧Same (upd H d (.frz ob (.dK kvs))) H'∧∃ pa:List (S × Addr × List S),H' ld = some (.dK (encD (fun v:Addr × List S=>V.ref v.1) pa))∧pa.map (·.1) = (ra.take i).map (·.1)∧∀ r∈pa,H' r.2.1 = some (.lst (r.2.2.map sv))∧LeadL (pairsB o bk) o T r.1 r.2.2)
      ⟨⟨_,_,_,_,rfl⟩,s3,[],hld3,rfl,fun r hr=>by cases hr⟩ (fun i σ H' _ h=>h.2.1 _ _ upd_same) ?_ ?_
    · rintro i q T0 σ H' Nx hN hq ⟨⟨x5,x6,x7,x8,rfl⟩,sm,pa,hpa,hpk,hpr⟩ hT0
      rw [← hkv] at hq
      unfold encD encK at hq
      rw [List.getElem?_map,List.getElem?_map] at hq
      cases ei:ra[i]? with
      | none=>rw [ei] at hq; cases hq
      | some r0 =>
      rw [ei] at hq
      have hq2:q = (Sum.inr (tx r0.1),V.ref r0.2.1):=(Option.some.inj hq).symm
      subst hq2
      have hmem:r0∈ra:=List.mem_of_getElem? ei
      have hi:i < ra.length:=(List.getElem?_eq_some_iff.mp ei).1
      have etk:ra.take (i + 1) = ra.take i ++ [r0]:=by rw [List.take_succ_eq_append_getElem hi,(List.getElem?_eq_some_iff.mp ei).2]
      have h0r:upd H d (.frz ob (.dK kvs)) r0.2.1 = some (.dK (rowV r0.2.2)):=by rw [upd_ne (rne r0 hmem)]; exact r3 r0 hmem
      refine ⟨T0,[sv r0.1,.ref r0.2.1],rfl,.of upd_same,rfl,_,_,rfl,_,_,rfl,rfl,?_⟩
      generalize hH4:upd H' T0 (HO.tup [kV ((Sum.inr (tx r0.1):Key),V.ref r0.2.1).1,((Sum.inr (tx r0.1):Key),V.ref r0.2.1).2]) = H4
      have s4:Same H' H4:=by rw [← hH4]; exact Same.upd1 hT0
      have sm4:=sm.trans s4
      have hrw:H4 r0.2.1 = some (.dK (rowV (rowOf (pairsB o bk) r0.1))):=by rw [← row_is r1 hmem]; exact sm4 _ _ h0r
      obtain ⟨l0,hl0⟩:=(end_row r1 r0.1).mp (List.mem_map.mpr ⟨r0,hmem,rfl⟩)
      have hel:r0.1.length≤3:=by have:=pair_end hl0; have:=hb.o3; omega
      refine ⟨_,rfl,_,rfl,_,rfl,_,rfl,r0.2.1,tl,r0.1,o,bk,T,rfl,hb,h64,hrw,hel,sm4 _ _ (by rw [upd_ne htld]; exact htl),fun l out H5 s5 hl5 hout hris hmem2=>?_⟩
      have s45:=s4.trans s5
      have hpa5:=s45 _ _ hpa
      have hlld:l≠ld:=fun z=>by rw [z] at hl5; rw [s4 _ _ hpa] at hl5; cases hl5
      have knd:(pa.map (·.1)).Nodup:=by
        rw [hpk,List.map_take]
        exact knd0.sublist (List.take_sublist _ _)
      have fresh:r0.1 ∉ pa.map (·.1):=fun h1=>by
        rw [hpk] at h1
        have h2:((ra.take (i + 1)).map (·.1)).Nodup:=by rw [List.map_take]; exact knd0.sublist (List.take_sublist _ _)
        rw [etk,List.map_append] at h2
        exact (List.nodup_append.mp h2).2.2 _ h1 _ (by simp) rfl
      refine ⟨_,rfl,_,rfl,ld,_,rfl,DPut.k (k:=Sum.inr (tx r0.1)) hpa5 (by rw [encD_len,← List.length_map (f:=(·.1)),hpk,List.length_map,List.length_take,sizeLine_eq]; omega),?_⟩
      have eput:=put_enc (fun v:Addr × List S=>V.ref v.1) pa r0.1 (l,out) knd
      rw [putA_new pa _ _ fresh] at eput
      have sx:SameX ld H5 (upd H5 ld (.dK (putK (encD (fun v:Addr × List S=>V.ref v.1) pa) (Sum.inr (tx r0.1)) (V.ref l)))):=(SameX.refl _).updf
      refine hN _ _ ⟨⟨_,_,_,_,rfl⟩,fun b u e=>?_,pa ++ [(r0.1,l,out)],?_,?_,fun r hr=>?_⟩
      · have hb':b≠ld:=fun z=>by rw [z,hld0] at e; cases e
        exact sx _ _ hb' (s5 _ _ (sm4 _ _ e))
      · rw [upd_same]
        exact congrArg (fun z=>some (HO.dK z)) eput
      · rw [List.map_append,hpk,etk,List.map_append]; rfl
      · rcases List.mem_append.mp hr with z | z
        · obtain ⟨g1,g2⟩:=hpr r z
          have g3:=s45 _ _ g1
          have hne:r.2.1≠ld:=fun z=>by rw [z,hpa5] at g3; cases g3
          exact ⟨sx _ _ hne g3,g2⟩
        · have hr2:r = (r0.1,l,out):=List.mem_singleton.mp z
          subst hr2
          exact ⟨sx _ _ hlld hout,hris,hmem2⟩
    · rintro σ H' ⟨⟨x5,x6,x7,x8,rfl⟩,sm,pa,hpa,hpk,hpr⟩
      refine ⟨ob,sm _ _ upd_same,?_⟩
      have sfin:Same H (upd H' d (.dK kvs)):=Same.thaw sm r2
      have hpa':upd H' d (.dK kvs) ld = some (.dK (encD (fun v:Addr × List S=>V.ref v.1) pa)):=by rw [upd_ne hdld]; exact hpa
      have hpr':∀ r∈pa,upd H' d (.dK kvs) r.2.1 = some (.lst (r.2.2.map sv))∧LeadL (pairsB o bk) o T r.1 r.2.2:=fun r hr=>by
        obtain ⟨g1,g2⟩:=hpr r hr
        have hne:r.2.1≠d:=fun z=>by rw [z,sm _ _ upd_same] at g1; cases g1
        exact ⟨by rw [upd_ne hne]; exact g1,g2⟩
      have hel:(encD (fun v:Addr × List (S × Int)=>V.ref v.1) ra).length = ra.length:=encD_len _ _
      rw [← hkv,hel,List.take_length] at hpk
      clear hpr hpa sm
      generalize upd H' d (.dK kvs) = H4 at sfin hpa' hpr'
      clear H'
      have knd:(pa.map (·.1)).Nodup:=by rw [hpk]; exact knd0
      have hlt:∀ e,(∃ l,(e,l)∈pairsB o bk)→∃ r∈pa,r.1 = e∧getA pa e = some r.2:=fun e he=>by
        have h1:=(end_row r1 e).mpr he
        rw [← hpk] at h1
        obtain ⟨r,hr,rfl⟩:=List.mem_map.mp h1
        exact ⟨r,hr,rfl,(getA_mem knd _ _).mp hr⟩
      have hlead:∀ e,(∃ l,(e,l)∈pairsB o bk)→LeadL (pairsB o bk) o T e (((getA pa e).map (·.2)).getD []):=fun e he=>by
        obtain ⟨r,hr,rfl,hg⟩:=hlt e he
        rw [hg]
        exact (hpr' r hr).2
      refine ⟨by show 0≤sizeLine; decide,fun lo hlo=>?_⟩
      have s5:Same H4 (upd H4 lo (.lst [])):=Same.upd1 hlo
      have hloH:H lo = none:=sfin.free hlo
      have hlold:lo≠ld:=fun z=>by rw [z,hpa'] at hlo; cases hlo
      refine ⟨_,rfl,ta,rfl,⟨_,.of (s5 _ _ (sfin _ _ hta))⟩,?_⟩
      have htaH4:=sfin _ _ hta
      have htalo:ta≠lo:=ne_of_none htaH4 hlo
      refine for_known (known_list K ta (A.map sv)) (fun i σ H'=>(∃ x5 x6 x8:Option V,σ = [some (.ref d),some (.int o),some (.ref ta),some (.ref tl),some (.ref ld),x5,x6,some (.ref lo),x8])∧SameX lo (upd H4 lo (.lst [])) H'∧H' lo = some (.lst (((A.take i).flatMap fun t=>(((getA pa (endOf t o)).map (·.2)).getD []).map (t ++ ·)).map sv)))
        ⟨⟨_,_,_,rfl⟩,SameX.refl _,upd_same⟩ (fun i σ H' _ h=>.of (h.2.1 _ _ htalo (s5 _ _ htaH4))) ?_ ?_
      · rintro i x σ H' Nx hN hx ⟨⟨x5,x6,x8,rfl⟩,sx,hlo'⟩
        rw [List.getElem?_map] at hx
        cases ei:A[i]? with
        | none=>rw [ei] at hx; cases hx
        | some t =>
        rw [ei] at hx
        have hx2:x = sv t:=(Option.some.inj hx).symm
        subst hx2
        have hi:i < A.length:=(List.getElem?_eq_some_iff.mp ei).1
        have etk:A.take (i + 1) = A.take i ++ [t]:=by rw [List.take_succ_eq_append_getElem hi,(List.getElem?_eq_some_iff.mp ei).2]
        obtain ⟨ht8,hrow⟩:=hAr t (List.mem_of_getElem? ei)
        obtain ⟨r,hr,hre,hg⟩:=hlt _ hrow
        obtain ⟨g1,g2⟩:=hpr' r hr
        have hr1lo:r.2.1≠lo:=ne_of_none g1 hlo
        have g1':=sx _ _ hr1lo (s5 _ _ g1)
        have hpaH:=sx _ _ hlold.symm (s5 _ _ hpa')
        have dg:DGet H' ld (sv (endOf t o)) (some (.ref r.2.1)):=by
          have:=DGet.k (k:=Sum.inr (tx (endOf t o))) hpaH
          rw [val_enc,hg] at this
          exact this
        refine ⟨_,rfl,.inl ⟨rfl,_,.of hlo'⟩,_,rfl,_,rfl,_,rfl,t,o,rfl,hb.o1,by omega,ld,.ref r.2.1,rfl,dg,r.2.1,rfl,⟨_,.of g1'⟩,?_⟩
        have h3:r.2.2.length≤3:=lets_3 habz (e:=r.1) g2.1 fun l hl=>⟨((g2.2 l).mp hl).1,((g2.2 l).mp hl).2.1⟩
        refine comp_known0 (known_list K r.2.1 (r.2.2.map sv)) [some (sv t)] 1 (by rw [List.length_map]; omega) (fun j acc H6=>H6 = H'∧acc = ((r.2.2.take j).map (t ++ ·)).map sv)
          ⟨rfl,rfl⟩ (fun j acc H6 _ h=>⟨.of (by rw [h.1]; exact g1'),by rw [h.2,List.length_map,List.length_map,List.length_take]; omega⟩) ?_ ?_
        · rintro j y acc H6 ys Nx2 hN2 hy hys ⟨rfl,rfl⟩
          obtain ⟨y',rfl⟩:=ys1L hys
          rw [List.getElem?_map] at hy
          cases ej:r.2.2[j]? with
          | none=>rw [ej] at hy; cases hy
          | some c =>
          rw [ej] at hy
          have hy2:y = sv c:=(Option.some.inj hy).symm
          subst hy2
          have hj:j < r.2.2.length:=(List.getElem?_eq_some_iff.mp ej).1
          have hc1:c.length≤1:=pairB_one ((g2.2 c).mp (List.mem_of_getElem? ej)).2.1
          refine ⟨_,rfl,_,rfl,tx t,tx c,rfl,rfl,by rw [tx_len,tx_len,sizeLine_eq]; omega,hN2 _ _ [some (sv c)] rfl ⟨rfl,?_⟩⟩
          rw [List.take_succ_eq_append_getElem hj,(List.getElem?_eq_some_iff.mp ej).2,List.map_append,List.map_append,tx_app]; rfl
        · rintro acc H6 ⟨rfl,rfl⟩ D hD
          rw [List.length_map,List.take_length]
          have sD:Same H6 (upd H6 D (.lst ((r.2.2.map (t ++ ·)).map sv))):=Same.upd1 hD
          have hlen:(((A.take i).flatMap fun t=>(((getA pa (endOf t o)).map (·.2)).getD []).map (t ++ ·)).map sv).length + ((r.2.2.map (t ++ ·)).map sv).length≤sizeLine:=by
            have h4:=flat_3 (A.take i) (fun t=>(((getA pa (endOf t o)).map (·.2)).getD []).map (t ++ ·)) fun u hu=>by
              obtain ⟨_,hrow2⟩:=hAr u (List.mem_of_mem_take hu)
              have g3:=hlead _ hrow2
              rw [List.length_map]
              exact lets_3 habz (e:=endOf u o) g3.1 fun l hl=>⟨((g3.2 l).mp hl).1,((g3.2 l).mp hl).2.1⟩
            rw [List.length_take] at h4
            rw [List.length_map,List.length_map,List.length_map,sizeLine_eq]; omega
          refine ⟨lo,D,_,_,rfl,rfl,sD _ _ hlo',upd_same,hlen,hN _ _ ⟨⟨_,_,_,rfl⟩,(sx.trans (SameX.of sD)).updf,?_⟩⟩
          rw [upd_same,etk,List.flatMap_append,← List.map_append]
          have e1:((getA pa (endOf t o)).map (·.2)).getD [] = r.2.2:=by rw [hg]; rfl
          simp [e1]
      · rintro σ H' ⟨⟨x5,x6,x8,rfl⟩,sx,hlo'⟩
        rw [List.length_map,List.take_length] at hlo'
        refine ⟨_,rfl,k lo (fun e=>((getA pa e).map (·.2)).getD []) H' (fun b u e=>?_) hloH hlead hlo'⟩
        have hbl:b≠lo:=ne_of_none e hloH
        exact sx _ _ hbl (s5 _ _ (sfin _ _ e))
end
end Kn.Ln
end
section
set_option Elab.async false
set_option linter.all false
set_option maxRecDepth 100000
set_option maxHeartbeats 1000000
namespace L2
open PySem PySem.Spec PyProof.Rows
structure Flown (P:Program) (w:World) (outer:List Env) (H:Hp) (s:Shared) (e:Addr) (cls a0:Value) (B:Heap) (H':Hp) (s':Shared):Prop where
  os:s'.os = s.os
  bare:AllBare s'.gens
  fly:Heap.FlyingW B outer e cls a0 s'.heap
  trB:∀ b u,H' b = some u→∃ o,B.get? b = some o
  hok:HOk P w H' s'.heap
  keep:∀ b o,s.heap.get? b = some o→H b = none→b ∉ frs outer→B.get? b = some o
  slot:∀ b o,s.heap.get? b = some o→b∈frs outer→H b = none→∃ sl,s'.heap.get? b = some { o with slots:=sl }
  free:∀ b o,s.heap.get? b = some o→H b = none→H' b = none
  there:∀ b o,s.heap.get? b = some o→b ∉ frs outer→∃ o',B.get? b = some o'
  tups:∀ b xs,H b = some (.tup xs)→H' b = some (.tup xs)
  frzs:∀ b o u,H b = some (.frz o u)→H' b = some (.frz o u)
  tbls:∀ b ps,H b = some (.tbl ps)→∃ more,H' b = some (.tbl (ps ++ more))
  ef:H' e = none
def CXr (P:Program) (w:World):CXT:=fun outer H s E ev s'=>∃ (e:Addr) (cls a0:Value) (B:Heap) (H':Hp),ev = .ref e∧Flown P w outer H s e cls a0 B H' s'∧E cls none H'
section
variable {P:Program} {w:World} {outer:List Env} {H H':Hp} {s s':Shared} {e:Addr} {cls a0:Value} {B h':Heap}
theorem hok_stays (ok:HOk P w H' s'.heap) (trB:∀ b u,H' b = some u→∃ o,B.get? b = some o) (st:B.StaysIn s'.heap) (st':B.StaysIn h'):HOk P w H' h':=fun a u q=>by
  refine (ok a u q).stay (fun b v hb r=>?_) (fun _ z=>z) fun _ _ z=>z
  have hb':∃ u',H' b = some u':=by
    rcases hb with z | z
    · rw [z]; exact ⟨u,q⟩
    · exact ⟨_,z⟩
  obtain ⟨u',hu'⟩:=hb'
  obtain ⟨o,ho⟩:=trB b u' hu'
  have:=st b o ho
  rw [r] at this
  cases this
  exact st' b _ ho
end
section
variable {X:Cx} {pins:List (Addr × Obj)} {σ:St} {H H':Hp} {s s':Shared} {e:Addr} {cls a0:Value} {B h':Heap}
theorem Inv.nstk (I:Inv X pins σ H s) {b:Addr} {o:Obj} (q:X.s₀.heap.get? b = some o) (hb:b ∉ X.fs):b ∉ frs X.stack:=fun z=>by
  rcases List.mem_cons.mp (I.stkSub b z) with r | r
  · exact absurd (Nat.lt_of_lt_of_le (Heap.lt_size q) I.ok.above) (by rw [r]; exact Nat.lt_irrefl _)
  · exact hb r
theorem sub_stk (hs:X.stack = X.env :: X.outer) {b:Addr} (hb:b∈X.fs):b∈frs X.stack:=by
  rw [hs]
  unfold frs
  rw [List.filterMap_cons]
  cases X.env.frame with
  | none=>exact hb
  | some L=>exact List.mem_cons_of_mem _ hb
theorem Flown.leaves (I:Inv X pins σ H s) (hs:X.stack = X.env :: X.outer) (hf:X.env.frame = some X.env.locals) (hx:X.ex = []) (F:Flown X.prog X.w X.stack H s e cls a0 B H' s') {Q:Unit→Shared→Prop} {E:Value→Shared→Prop} {M:Model}
    (hQ:∀ s'',Flown X.prog X.w X.outer X.H₀ X.s₀ e cls a0 B H' s''→Q () s''):wpAny M X.A (leaving X.env (.ref e)) Q E s':=by
  have fly:=F.fly
  rw [hs] at fly
  have fun':=F.fly.2.2.1
  refine wpAny_leaves_onW (by rw [← hs]; exact I.ok.frames) hf fly fun h' fly' up=>hQ _ ?_
  have nex:∀ b:Addr,b ∉ X.ex:=fun b z=>by rw [hx] at z; cases z
  refine ⟨F.os.trans I.os,F.bare,fly',F.trB,hok_stays F.hok F.trB F.fly.1 fly'.1,fun b o q n hb=>?_,fun b o q hb n=>?_,fun b o q n=>?_,fun b o q hb=>?_,fun b xs q=>F.tups b xs (I.base.tups b xs q),fun b o u q=>F.frzs b o u (I.base.frzs b o u q),fun b ps q=>?_,F.ef⟩
  · exact F.keep b o (I.base.keep b o q n hb (nex b)) (I.base.free b o q n (nex b)) (I.nstk q hb)
  · obtain ⟨sl,z⟩:=I.base.slot b o q n hb (nex b)
    obtain ⟨sl',z'⟩:=F.slot b _ z (sub_stk hs hb) (I.base.free b o q n (nex b))
    obtain ⟨_,o',ho',hd⟩:=fun'.mem (show b∈X.stack.filterMap (·.frame) from sub_stk hs hb)
    rw [z'] at ho'
    cases ho'
    obtain ⟨sl'',z''⟩:=up b _ z' hd
    exact ⟨sl'',z''⟩
  · obtain ⟨o',z⟩:=I.base.there b o q (nex b)
    exact F.free b o' z (I.base.free b o q n (nex b))
  · obtain ⟨o',z⟩:=I.base.there b o q (nex b)
    exact F.there b o' z (I.nstk q hb)
  · obtain ⟨m1,e1⟩:=I.base.tbls b ps q
    obtain ⟨m2,e2⟩:=F.tbls b _ e1
    exact ⟨m1 ++ m2,by rw [e2,Array.append_assoc]⟩
theorem made_leaves {C:Addr} {vs:List Value} (I:Inv X pins σ H s) (hs:X.stack = X.env :: X.outer) (hf:X.env.frame = some X.env.locals) (hx:X.ex = []) (hm:Heap.MadeExcOf s.heap h' e (.ref C) vs) {Q:Unit→Shared→Prop} {E:Value→Shared→Prop} {M:Model}
    (hQ:∀ s'' a0 B,Flown X.prog X.w X.outer X.H₀ X.s₀ e (.ref C) a0 B H s''→Q () s''):wpAny M X.A (leaving X.env (.ref e)) Q E { s with heap:=h' }:=by
  have fr:=I.stack
  have hin:∀ env∈X.stack,∀ b,env.frame = some b→b∈frs X.stack:=fun env he b hb=>List.mem_filterMap.mpr ⟨env,he,hb⟩
  have fr':=PySem.W.funFrames_hide (as:=frs X.stack) fr hin
  rw [hs] at fr'
  have nex:∀ b:Addr,b ∉ X.ex:=fun b z=>by rw [hx] at z; cases z
  refine wpAny_leaves_madeW (base:=PySem.W.hideAll s.heap (frs X.stack)) (by rw [← hs]; exact I.ok.frames) hf (fun b o q=>PySem.W.of_hideAll _ q) (by rw [hs]; exact fr') hm fun h2 t fly tup bt up=>hQ _ (.ref t) (PySem.W.hideAll s.heap (frs X.stack)) ?_
  have trB:∀ b u,H b = some u→∃ o,(PySem.W.hideAll s.heap (frs X.stack)).get? b = some o:=fun b u q=>by
    obtain ⟨o,ho⟩:=(I.hok b u q).obj
    exact ⟨o,PySem.W.hideAll_get _ ho fun z=>by rw [I.stkFree b z] at q; cases q⟩
  have stS:(PySem.W.hideAll s.heap (frs X.stack)).StaysIn s.heap:=fun b o q=>PySem.W.of_hideAll _ q
  refine ⟨I.os,I.bare,fly,trB,hok_stays (s':=s) I.hok trB stS fly.1,fun b o q n hb=>?_,fun b o q hb n=>?_,fun b o q n=>I.base.free b o q n (nex b),fun b o q hb=>?_,I.base.tups,I.base.frzs,I.base.tbls,I.hok.free hm.new⟩
  · exact PySem.W.hideAll_get _ (I.base.keep b o q n hb (nex b)) (I.nstk q hb)
  · obtain ⟨sl,z⟩:=I.base.slot b o q n hb (nex b)
    obtain ⟨_,o',ho',hd⟩:=fr.mem (show b∈X.stack.filterMap (·.frame) from sub_stk hs hb)
    rw [z] at ho'
    cases ho'
    obtain ⟨sl'',z''⟩:=up b _ (hm.keeps b _ z) hd
    exact ⟨sl'',z''⟩
  · obtain ⟨o',z⟩:=I.base.there b o q (nex b)
    exact ⟨o',PySem.W.hideAll_get _ z (I.nstk q hb)⟩
end
structure XOk (X:Cx) (E:XK):Prop where
  made:∀ (pins:List (Addr × Obj)) (σ:St) (H:Hp) (s:Shared) (h':Heap) (e C:Addr) (vs:List Value),Inv X pins σ H s→Heap.MadeExcOf s.heap h' e (.ref C) vs→E (.ref C) none H→X.xe (.ref e) { s with heap:=h' }
  pass:Passes (CXr X.prog X.w) X E
theorem xok_fn {P:Program} {w:World} {K:PySem.W.Frag} {mg:Str→Option Value} {base:Heap} {N:List Str} {qual:Str} {scope:Scope} {f:Addr} {cd:Value} {A:Around} {outer:List Env} {s:Shared} {H:Hp} {E:XK} :
    XOk (cxOf (CXr P w) P w K mg base N qual scope f cd A outer s H E) E where
  made:=fun pins σ H1 s1 h' e C vs I hm hE=>made_leaves I rfl rfl rfl hm fun s'' a0 B F=>⟨e,_,a0,B,H1,rfl,F,hE⟩
  pass:=fun pins σ H1 s1 ev s' I ⟨e,cls,a0,B,H',he,F,hE⟩=>by
    subst he
    exact Flown.leaves I rfl rfl rfl F fun s'' F'=>⟨e,cls,a0,B,H',rfl,F',hE⟩
abbrev veMro:List Value:=[.type "ValueError",.type "Exception",.type "BaseException",.type "object"]
structure XCls (K:PySem.W.Frag) (mg:Str→Option Value) (x:Str) (C:Addr):Prop where
  bound:mg x = some (.ref C)
  exc:PySem.W.excIn K C veMro "ValueError.__new__" = true
theorem xcls_obj {K:PySem.W.Frag} {h:Heap} {C:Addr} {newId:String} {bmB:List Value} (X:K.In h) (q:PySem.W.excIn K C bmB newId = true) :
    ∃ bm N nm q bs hdct sn sub ab col dd k0 k1 k2 k3 k5 mN,h.get? C = some (excClassObj nm q C N bs bm hdct sn sub ab col dd k0 k1 k2 k3 k5 newId)∧h.Ns N mN∧mN "__init__" = none∧OwnTail h bmB bm∧∃ cd,K.lookup C = some ⟨.type "type",dd,.cls cd,#[k0,k1,k2,k3,some (.builtin newId),k5]⟩∧cd.mro = .ref C :: bm:=by
  unfold PySem.W.excIn at q
  split at q
  · rename_i dd cd sl ho
    split at q
    · rename_i C' bm k0 k1 k2 k3 n k5 hm hs
      simp only [Bool.and_eq_true,beq_iff_eq,Bool.not_eq_true'] at q
      obtain ⟨⟨⟨⟨⟨rfl,rfl⟩,hdel⟩,ht⟩,hok⟩,hni⟩:=q
      obtain ⟨nm,bs,mro,ns,qn,hd,sn,sub,ab,col,del⟩:=cd
      dsimp only at hm hdel hok hni
      subst hm hdel
      have hsl:sl = #[k0,k1,k2,k3,some (.builtin n),k5]:=by
        obtain ⟨l⟩:=sl
        simp only at hs
        rw [hs]
      subst hsl
      exact ⟨bm,ns,nm,qn,bs,hd,sn,sub,ab,col,dd,k0,k1,k2,k3,k5,_,X _ _ ho,.of_isNs (PySem.W.isNs_of_in X hok),PySem.W.nsMap_none_of_in X hok hni,PySem.W.tail_of_in X ht,_,ho,rfl⟩
    · cases q
  · cases q
def tRaise (C:Addr) (E:XK) (t:TA):TS:=fun _ σ H=>t σ H fun vs H1=>vs.length≤sizeLine∧E (.ref C) none H1
section
variable {X:Cx}
theorem ps_raise {E:XK} {x:Str} {C:Addr} {np cpos pos:Pos} {e0:Expr} {es:List Expr} {t:TA} (ok:XOk X E) (hc:X.calm = true) (O:XCls X.K X.mg x C) (hg:Gl X x) (ha:PA X (e0 :: es) t)
    (he:starEach (e0 :: es) X.env = (false,eval e0 X.env) :: starEach es X.env:=by rfl) (hplain:(backTo cpos (starEach es X.env)).any (·.1) = false:=by rfl) (hdb:(x == ("__debug__" : Str)) = false:=by decide) :
    PS X (.Raise (some (.Call (.Name x np) (e0 :: es) [] cpos)) none pos) (tRaise C E t):=by
  intro pins s σ H D I h
  obtain ⟨tl,N,nm,q,bs,hdct,sn,sub,ab,col,dd,k0,k1,k2,k3,k5,mN,hC,hN,hni,T,_⟩:=xcls_obj I.mod.kin O.exc
  refine wpAny_Raise_call_subU (C:=C) (nm:=nm) (q:=q) (N:=N) (bs:=bs) (bm:=tl) (hdct:=hdct) (sn:=sn) (sub:=sub) (ab:=ab) (col:=col) (dd:=dd) (k0:=k0) (k1:=k1) (k2:=k2) (k3:=k3) (k5:=k5)
    PySem.F.excBase_ValueError (by decide) PySem.F.excBase_ValueError (mN:=mN) (T.hasType PySem.F.excBase_ValueError.hasBase) (I.ok.hd hc) (by rw [he]; show (false || (backTo cpos (starEach es X.env)).any (·.1)) = false; rw [hplain]; rfl) hni ?_
  refine ld_glob I hg O.bound ⟨rfl,?_⟩ hdb
  have hpa:=ha cpos pins s σ H _ I h
  rw [he] at hpa ⊢
  refine Calls.evalArgs_plain (wpAny_mono hpa (fun vs s₂ h₂=>?_) fun _ _ y=>y)
  obtain ⟨us,H1,I1,r,q1⟩:=h₂
  exact ⟨rfl,by rw [← r.length]; exact q1.1,I1.bk _ _ hC,hN.keeps I1.bk,T.keeps I1.bk,fun h' e hm=>ok.made pins σ H1 s₂ h' e C vs I1 hm q1.2⟩
end
section
variable {P:Program} {w:World} {K:PySem.W.Frag} {mg:Str→Option Value} {base:Heap}
theorem Fun.okR {x qual:Str} {st:Stmt} {f:Addr} {fd:FuncData} {N ps:List Str} {k:Nat} {sp:Sp} (F:Fun K x qual st f fd) (S:FnScope N ps (defScope st)) (len:∀ vs H Q E,sp vs H Q E→vs.length = ps.length)
    (hbody:∀ (cdv:Value) (A:Around) (outer:List Env) (s:Shared) (H:Hp) (vs:List V) (Q:VK) (E:XK),Room k (A.deeper (envOfC qual (defScope st) s.heap.objs.size f cdv))→sp vs H Q E→XOk (cxOf (CXr P w) P w K mg base N qual (defScope st) f cdv A outer s H E) E →
      ∃ t,PSs (cxOf (CXr P w) P w K mg base N qual (defScope st) f cdv A outer s H E) (defBody st) t∧t { nx:=fun _ H'=>Q .non H',rt:=Q } (start N vs) H):FnOk P w K mg base (CXr P w) (k + 1) f fd ps sp:=by
  obtain ⟨oc,od,kV,doc,pm,an,cdv,ct,osl,rfl,lk,hcd⟩:=F.ex
  refine fn_of lk hcd S len fun A outer s H vs Q E hr hsp=>?_
  exact hbody cdv A outer s H vs Q E hr hsp xok_fn
def CalR (P:Program) (w:World) (K:PySem.W.Frag) (mg:Str→Option Value) (base:Heap) (k:Nat) (x:Str) (ps:List Str) (sp:Sp):Prop :=
  ∃ (f:Addr) (fd:FuncData),FnOk P w K mg base (CXr P w) k f fd ps sp∧mg x = some (.ref f)∧PySem.W.keepIn K (.ref f) = true∧Binds K fd ps []
theorem pe_calR {X:Cx} {k:Nat} {x:Str} {ps:List Str} {sp:Sp} {p pos:Pos} {e:Expr} {es:List Expr} {t:TA} {E:XK} (C:CalR X.prog X.w X.K X.mg X.base k x ps sp) (ok:Passes (CXr X.prog X.w) X E) (hr:Room k X.A) (hg:Gl X x) (ha:PA X (e :: es) t)
    (hs:starEach (e :: es) X.env = (false,eval e X.env) :: starEach es X.env:=by rfl) (hplain:(backTo pos (starEach es X.env)).any (·.1) = false:=by rfl)
    (hdb:(x == ("__debug__" : Str)) = false:=by decide):PE X (.Call (.Name x p) (e :: es) [] pos) (tCall sp [] E t):=by
  obtain ⟨f,fd,G,hm,kp,b⟩:=C
  exact pe_call G hr hg hm kp b .nil ok ha hdb hs hplain
end
section
variable {M:Model} {A:Around} {E:Value→Shared→Prop} {h:Heap} {g:Array GenState} {d:Drawn} {t:Nat} {os:OsState}
end
section
variable {X:Cx} {pins:List (Addr × Obj)} {σ:St} {H:Hp} {s:Shared} {e:Addr}
end
structure RoomB (k:Nat) (A:Around):Prop where
  dp:A.depth + 3 * k + 5 < recursionLimit
  un:A.units + 16 * k + 200 < cLine
structure FnB (P:Program) (w:World) (K:PySem.W.Frag) (mg:Str→Option Value) (base:Heap) (CX:CXT) (k:Nat) (f:Addr) (fd:FuncData) (ps:List Str) (sp:Sp):Prop where
  len:∀ vs H Q E,sp vs H Q E→vs.length = ps.length
  run:∀ (A:Around) (outer:List Env) (s:Shared) (H:Hp) (args:Args) (us:List Value) (vs:List V) (Q:VK) (E:XK),RoomB k A→Env0 P w K mg base A outer s H→BindsTo s fd args (ps.zip us)→Vals vs us→sp vs H Q E →
    codeAny (model P w) A (.call (.ref f) args) (CR CX outer P w H s Q E) s
section
variable {P:Program} {w:World} {K:PySem.W.Frag} {mg:Str→Option Value} {base:Heap}
def CalB (P:Program) (w:World) (K:PySem.W.Frag) (mg:Str→Option Value) (base:Heap) (k:Nat) (x:Str) (ps:List Str) (sp:Sp):Prop :=
  ∃ (f:Addr) (fd:FuncData),FnB P w K mg base CX0 k f fd ps sp∧mg x = some (.ref f)∧PySem.W.keepIn K (.ref f) = true∧Binds K fd ps []
end
end L2
end
section
set_option Elab.async false
set_option linter.all false
set_option maxRecDepth 100000
set_option maxHeartbeats 1000000
namespace L2
open PySem PySem.Spec PyProof.Rows
section
variable {X:Cx} {E:XK} {fe e:Expr} {es:List Expr} {tf:TE} {t:TA} {pos:Pos}
end
end L2
end
section
set_option Elab.async false
set_option linter.all false
set_option maxRecDepth 100000
set_option maxHeartbeats 1000000
namespace L2
open PySem PySem.Spec PyProof.Rows
theorem log2_lt_of {i:Int} {n:Nat} (h0:0 < i) (h:i < 2 ^ n):i.natAbs.log2 < n:=by
  refine (Nat.log2_lt (by omega)).mpr ?_
  have e:((2 ^ n:Nat):Int) = (2:Int) ^ n:=by simp
  have:(i.natAbs:Int) < ((2 ^ n:Nat):Int):=by rw [e]; omega
  omega
theorem op_fdivG {X:Cx}:OpR X (binaryOp .FloorDiv) (rI (fun _ j=>0 < j∧j < 2 ^ 8000) fun i j=>.int (i / j)):=opI fun i j _ _ _ _ _ hc q=>by
  have h1:(0:Int) < j:=hc.1
  exact floordiv_int (by omega) (by rw [Int.fdiv_eq_ediv_of_nonneg i (by omega)]; exact q) (.inl (PyProof.noPylong_of_log2 (Nat.lt_of_lt_of_le (log2_lt_of h1 hc.2) (by decide))))
end L2
end
section
set_option Elab.async false
set_option linter.all false
set_option maxRecDepth 100000
set_option maxHeartbeats 1000000
namespace L2
open PySem PySem.Spec PyProof.Rows
section
variable {X:Cx}
theorem ps_setC {j:Nat} {y:Str} {py spos:Pos} {tg iter elt:Expr} {ifs:List Expr} {scope:Scope} {pos:Pos} {wi:TI} {g:TG} {tc:TT} {te:TE} {N:List Str} {caps:List Nat} (hN:X.N.Nodup) (hj:X.N[j]? = some y) (hy:Loc X.env.scope y) (hc:X.calm = true) (S:CompScope X.env.scope X.N N scope caps)
    (hi:PI X tg iter wi) (hg:∀ cl C s H ex,PG (cxComp X N scope cl C s H ex) tg g) (hf:∀ cl C s H ex,PF (cxComp X N scope cl C s H ex) ifs tc) (he:∀ cl C s H ex,PE (cxComp X N scope cl C s H ex) elt te)
    (hs:∀ x,foldedSetIterable iter X.env x = pure x:=by intro _; rfl) (hsw:swapsWith (.ListComp elt [⟨tg,iter,ifs,0⟩] scope pos) (some (.Name y py)) spos.line X.env = pure true:=by rfl)
    (hfn:X.fn y = true∨X.env.scope.names.lookup y = some .local:=by first | exact .inl rfl | exact .inr rfl | assumption):PS X (.Assign [.Name y py] (.ListComp elt [⟨tg,iter,ifs,0⟩] scope pos) spos) (tAsg (tComp wi g tc te caps N.length) (gName j)):=by
  intro pins s σ H D0 I h
  obtain ⟨cl,hcl,hcl1,hcl2⟩:=closure_of (env:=X.env) (scope:=scope) fun y hy e=>I.ok.has y.1 (S.free y hy e)
  rw [exec_Assign_Name_used _ _ _ _ hsw]
  refine wpAny_bind (wpAny_standAt (wpAny_bind ?_))
  show wpAny _ X.A (do let _ ← comprehension (.ListComp elt [⟨tg,iter,ifs,0⟩] scope pos) scope X.env _ (newList []) false (eval iter X.env) (some (assign (.Name y py) X.env))) _ _ s
  refine wpAny_bind (wpAny_mono (wpAny_comprehension_free (use:=some (assign (.Name y py) X.env)) (Q:=fun _ s'=>SP X pins D0 .next s') rfl hs hcl S.kind S.names (thn (hi pins s σ H _ I h) fun v s1 h1=>thn h1 fun itv s2 h2=>?_))
    (fun _ s' hq=>wpAny_pure (wpAny_pure hq)) fun _ _ e=>e)
  obtain ⟨it,fp,tn,J,H2,e,I2,T,st2,f2,W,⟨m0,w0⟩,turn⟩:=h2
  subst e
  refine wpAny_newObj_type (wpAny_newFunctionEnv S.nocell (by intro y hy; simp at hy) (fun h₁ hns hsb=>?_) S.kind)
  dsimp only at hns hsb ⊢
  generalize hG:s2.heap.push { cls:=.type "list",dict:=none,data:=.seq ([]:List Value).toArray } = G at hns hsb ⊢
  have hCs:G.objs.size = s2.heap.objs.size + 1:=by rw [← hG,Heap.size_push]
  have hDC:s2.heap.objs.size≠G.objs.size:=by rw [hCs]; exact Nat.ne_of_lt (Nat.lt_succ_self _)
  have old:∀ b o,s2.heap.get? b = some o→h₁.get? b = some o:=fun b o e=>by
    have hb:=Heap.lt_size e
    refine hsb.extBut b o (by rw [hCs]; exact Nat.ne_of_lt (Nat.lt_succ_of_lt hb)) (Heap.get?_push_of_some _ ?_)
    rw [← hG]
    exact Heap.get?_push_of_some _ e
  have hD:h₁.get? s2.heap.objs.size = some { cls:=.type "list",dict:=none,data:=.seq ([]:List Value).toArray }:=by
    refine hsb.extBut _ _ hDC (Heap.get?_push_of_some _ ?_)
    rw [← hG]
    exact Heap.get?_push_size _ rfl
  have hfo:∀ b∈fp,b < s2.heap.objs.size:=fun b hb=>let ⟨o,e,_⟩:=T.obj 0 _ st2 b hb; Heap.lt_size e
  have hCle:s2.heap.objs.size≤G.objs.size:=by omega
  have ok:=comp_ok (C:=G.objs.size) I2 S hcl1 hcl2 hCle f2 hfo
  have I0:Inv (cxComp X N scope cl G.objs.size s2 H2 fp) [(s2.heap.objs.size,{ cls:=.type "list",dict:=none,data:=.seq ([]:List Value).toArray })] (capStart caps N.length σ) H2 { s2 with heap:=h₁,toks:=s2.toks + ([]:List (Str × Value)).length } :=
    comp_start I2 ok S hcl1 hcl2 old hns hCle hD (Nat.le_refl _) hDC (fun v z=>by cases z)
  have st1:tn 0 h₁:=T.keep 0 _ _ st2 fun b _ o e=>old b o e
  generalize hX:cxComp X N scope cl G.objs.size s2 H2 fp = X' at I0
  generalize hDa:s2.heap.objs.size = D at I0 hD hDC
  have loop:codeAny (model X.prog X.w) X.A (.compLoop (.ListComp elt [⟨tg,iter,ifs,0⟩] scope pos) 0 (.ref it) (.ref D) (compEnvC scope cl G.objs.size X.env)) (compPost (model X.prog X.w) X.A X.xe (some (assign (.Name y py) X.env)) (fun _ s'=>SP X pins D0 .next s') (.ref D) G.objs.size)
      { s2 with heap:=h₁,toks:=s2.toks + ([]:List (Str × Value)).length }:=by
    subst hX
    refine loop_comp (J:=fun n s'=>∃ i σ' H' acc its e,Inv (cxComp X N scope cl G.objs.size s2 H2 fp) [(D,{ cls:=.type "list",data:=.seq (List.toArray its) e })] σ' H' s'∧Vals acc its∧acc.length≤sizeLine∧tn i s'.heap∧(∀ b∈fp,H' b = none)∧W i n acc σ' H')
      ?_ m0 ⟨0,_,H2,[],[],0,I0,.nil,Nat.zero_le _,st1,fun b hb=>(f2 b hb).1,w0⟩
    rintro n s3 ⟨i,σ3,H3,acc,its,ep,I3,rv,hz,st3,fr3,w3⟩
    have stat:∀ {H':Hp} {pl:List (Addr × Obj)},(∀ b∈fp,H' b = none)→(∀ p∈pl,p.1 = D)→∀ b∈fp,FpOk (cxComp X N scope cl G.objs.size s2 H2 fp) pl H' b:=fun {H' pl} hn hpl b hb=>by
      obtain ⟨a1,a2⟩:=ok.exf b hb
      exact ⟨hn b hb,a1,ok.exfs b hb,.inl hb,fun x c e=>a2 x c e,fun p hp=>by
        have hp':p∈pl:=hp
        rw [hpl p hp',← hDa]
        exact Nat.ne_of_gt (hfo b hb)⟩
    have one:∀ p∈[(D,({ cls:=.type "list",data:=.seq (List.toArray its) ep }:Obj))],p.1 = D:=fun p hp=>by
      rcases List.mem_cons.mp hp with e | e
      · rw [e]
      · cases e
    have pinD:∀ {pl:List (Addr × Obj)} {σ':St} {H':Hp} {s':Shared} {o:Obj},Inv (cxComp X N scope cl G.objs.size s2 H2 fp) pl σ' H' s'→(D,o)∈pl→s'.heap.get? D = some o∧H' D = none:=fun {pl σ' H' s' o} I' hm=>by
      obtain ⟨a,b,_⟩:=I'.pin (D,o) (List.mem_append_right _ hm)
      exact ⟨a,b⟩
    rcases turn i n acc σ3 H3 w3 with ⟨stop,q⟩ | ⟨go,hlt,step⟩
    · refine wpAny_mono (T.done (cxComp X N scope cl G.objs.size s2 H2 fp) rfl rfl rfl hc i _ s3 σ3 H3 (fun _ _=>False) I3 (stat fr3 one) st3 stop) (fun r s4 ⟨hr,I4⟩=>?_) fun _ _ f=>f
      subst hr
      obtain ⟨hDo,hDn⟩:=pinD I4 (List.mem_cons_self ..)
      obtain ⟨m4,hm4,_⟩:=I4.loc
      have keepC:∀ b (u:Obj),b≠G.objs.size→s4.heap.get? b = some u→s4.heap.get? b = some u:=fun b u _ e=>e
      have un:Un (frs X.stack) fp H2 H3 s2.heap s4.heap:=I4.base
      have hDo':=hDo
      have hlow:∀ b (o:Obj),s2.heap.get? b = some o→b≠G.objs.size∧b≠D:=fun b o e=>by
        have h0:=Heap.lt_size e
        exact ⟨by rw [hCs]; exact Nat.ne_of_lt (Nat.lt_succ_of_lt h0),by rw [← hDa]; exact Nat.ne_of_lt h0⟩
      have un':Un (frs X.stack) fp H2 (upd H3 D (.lst acc)) s2.heap s4.heap :=
        ⟨fun b o e n' hb hx=>keepC b o (hlow b o e).1 (un.keep b o e n' hb hx),
         fun b o e n' hb hx=>let ⟨sl,q⟩:=un.slot b o e n' hb hx; ⟨sl,keepC b _ (hlow b o e).1 q⟩,
         fun b o e n' hx=>by rw [upd_ne (hlow b o e).2]; exact un.free b o e n' hx,
         fun b o e hx=>let ⟨o',q⟩:=un.there b o e hx; ⟨o',keepC b _ (hlow b o e).1 q⟩,
         fun b xs e=>by rw [upd_ne (ne_of_none (un.tups b xs e) hDn)]; exact un.tups b xs e,
         fun b o u e=>by rw [upd_ne (ne_of_none (un.frzs b o u e) hDn)]; exact un.frzs b o u e,
         fun b ps e=>let ⟨mo,q⟩:=un.tbls b ps e; ⟨mo,by rw [upd_ne (ne_of_none q hDn)]; exact q⟩⟩
      have hok:HOk X.prog X.w (upd H3 D (.lst acc)) s4.heap:=I4.hok.track hDn ⟨hz,its,ep,rv,hDo'⟩
      have IX:Inv X pins σ (upd H3 D (.lst acc)) s4:=I2.call' I4.os un' hok I4.bare (fun b hb=>by
        obtain ⟨_,f1,_,f3,f4,f5⟩:=f2 b hb
        exact ⟨f3,f1,f4,f5⟩)
      have hCn:upd H3 D (.lst acc) G.objs.size = none:=by
        rw [upd_ne (Ne.symm hDC)]; exact I4.free
      have fpC:FpOk X pins (upd H3 D (.lst acc)) G.objs.size:=I2.fpOk hCle hCn
      obtain ⟨oC,es,epC,hoC,hdC,hsk,hnf⟩:=hm4
      have IXp:=IX.pinned (fp:=[G.objs.size]) (fun b hb=>by
        have:b = G.objs.size:=by simpa using hb
        rw [this]; exact fpC) (fun b hb=>by
        have:b = G.objs.size:=by simpa using hb
        rw [this]; exact ⟨oC,hoC,fun v z=>by rw [hdC] at z; cases z⟩)
      refine wpAny_assign_Name (store_ok IXp hN hj hy (v:=.ref D) rfl (fun s5 I5=>?_) hfn)
      have pC:=(I5.pin (G.objs.size,oC) (List.mem_append_right _ (List.mem_append_right _ (mem_pinsAt (List.mem_cons_self ..) hoC)))).1
      refine ⟨m4,⟨oC,es,epC,pC,hdC,hsk,hnf⟩,fun h' hsb'=>?_⟩
      obtain ⟨c0,c1,c2,c3,c4,c5⟩:=fpC
      exact ⟨_,_,I5.unpinned.turned (t':=s5.toks) (fun b o hb e=>hsb'.extBut b o hb e) c0 c1 c3 c4 c5,q D hDn⟩
    · refine wpAny_mono (T.item (cxComp X N scope cl G.objs.size s2 H2 fp) rfl rfl rfl hc i _ s3 σ3 H3 (fun _ _=>False) I3 (stat fr3 one) st3 go) (fun r s4 ⟨u,hr,h4⟩=>?_) fun _ _ f=>f
      subst hr
      refine thn h4 fun _ s5 ⟨x,H5,I5,r5,y5,st5,fr5⟩=>?_
      have I5':=I5.pinned (stat fr5 one) (T.obj _ _ st5)
      refine thn (hg cl G.objs.size s2 H2 fp _ s5 σ3 H5 x u _ I5' r5 (step x H5 y5)) fun _ s6 ⟨σ6,H6,I6,q6⟩=>?_
      refine thn (hf cl G.objs.size s2 H2 fp _ s6 σ6 H6 _ I6 q6) fun b s7 ⟨H7,I7,q7⟩=>?_
      have fin:∀ {pl:List (Addr × Obj)} {σ':St} {H':Hp} {s':Shared},Inv (cxComp X N scope cl G.objs.size s2 H2 fp) (pl ++ pinsAt fp s5.heap) σ' H' s'→tn (i + 1) s'.heap∧∀ b∈fp,H' b = none:=fun {pl σ' H' s'} I'=>by
        refine ⟨T.keep _ _ _ st5 fun b hb o e=>(I'.pin (b,o) (List.mem_append_right _ (List.mem_append_right _ (mem_pinsAt hb e)))).1,fun b hb=>?_⟩
        obtain ⟨o,e,_⟩:=T.obj _ _ st5 b hb
        exact (I'.pin (b,o) (List.mem_append_right _ (List.mem_append_right _ (mem_pinsAt hb e)))).2.1
      cases b with
      | false =>
        rw [if_neg Bool.false_ne_true] at q7 ⊢
        obtain ⟨m',hm,w7⟩:=q7
        obtain ⟨a1,a2⟩:=fin I7
        exact ⟨m',hm,i + 1,σ6,H7,acc,its,ep,I7.unpinned,rv,hz,a1,a2,w7⟩
      | true =>
        rw [if_pos rfl] at q7 ⊢
        refine thn (he cl G.objs.size s2 H2 fp _ s7 σ6 H7 _ I7 q7) fun y s8 ⟨yv,H8,I8,r8,m',hm,w8⟩=>?_
        obtain ⟨a1,a2⟩:=fin I8
        obtain ⟨b1,b2⟩:=pinD I8 (List.mem_append_left _ (List.mem_cons_self ..))
        have hl:=rv.length
        refine call_meets F.slot_list_append ⟨_,b1,rfl⟩ F.entry_list_append (F.args_list_append_2 _ _) (PySem.list_append D its.toArray ep y (by rw [List.size_toArray]; omega)) ⟨b1,?_⟩
        have q9:=PySem.IsL.update b1 (·.push y)
        have kp:∀ b o,b≠D→s8.heap.get? b = some o→(s8.heap.update D (Obj.mapSeq (·.push y))).get? b = some o:=fun b o hb e=>(Heap.get?_update_other s8.heap (Obj.mapSeq (·.push y)) (Ne.symm hb)).trans e
        have I9:Inv (cxComp X N scope cl G.objs.size s2 H2 fp) [] σ6 H8 { s8 with heap:=s8.heap.update D (Obj.mapSeq (·.push y)) } :=
          (I8.pins_of (pins':=[]) fun p hp=>by cases hp).turned (t':=s8.toks) kp b2 hDC (.inr (by rw [← hDa]; exact Nat.le_refl _)) (fun x c e z=>by
            have e':X.env.cells.lookup x = some c:=hcl1 x c e
            obtain ⟨v',hv'⟩:=I2.cell x c e'
            have h0:=hv'.lt
            rw [z,← hDa] at h0
            exact Nat.lt_irrefl _ h0) fun p hp=>by
              have:p∈([]:List (Addr × Obj)):=hp
              cases this
        have hpu:its.toArray.push y = (its ++ [y]).toArray:=by simp
        rw [hpu] at q9
        obtain ⟨e9,q9⟩:∃ e9,(s8.heap.update D (Obj.mapSeq (·.push y))).get? D = some { cls:=.type "list",data:=.seq (its ++ [y]).toArray e9 }:=⟨_,q9⟩
        refine ⟨m',hm,i + 1,σ6,H8,acc ++ [yv],its ++ [y],e9,I9.pins_of fun p hp=>?_,rv.append (.cons r8 .nil),?_,T.keep _ _ _ a1 fun b hb o e=>kp b o ?_ e,a2,w8⟩
        · obtain rfl:p = (D,{ cls:=.type "list",data:=.seq (its ++ [y]).toArray e9 }):=by
            rcases List.mem_cons.mp hp with e | e
            · exact e
            · cases e
          obtain ⟨_,_,c3,c4,_⟩:=I8.pin (D,_) (List.mem_append_right _ (List.mem_append_left _ (List.mem_cons_self ..)))
          exact ⟨q9,b2,c3,c4,fun v z=>by cases z⟩
        · rw [List.length_append,List.length_singleton]; omega
        · rintro rfl
          have h0:=hfo b hb
          rw [hDa] at h0
          exact Nat.lt_irrefl _ h0
  exact codeAny_compStart_list loop (T.self X.A 0 _ _ _ st1 loop)
end
end L2
end
section
set_option Elab.async false
set_option linter.all false
set_option maxRecDepth 100000
set_option maxHeartbeats 1000000
namespace Kn.Ln
open PySem L2 Kn
theorem pow_mono2 {a b:Nat} (h:a≤b):(2:Int) ^ a≤2 ^ b:=by
  have h3:2 ^ a≤2 ^ b:=Nat.pow_le_pow_right (by decide) h
  have h4:((2 ^ a:Nat):Int) = (2:Int) ^ a:=by simp
  have h5:((2 ^ b:Nat):Int) = (2:Int) ^ b:=by simp
  rw [← h4,← h5]; exact Int.ofNat_le.mpr h3
section
variable {P:Program} {w:World} {K:PySem.W.Frag} {mg:Str→Option Value} {base:Heap}
def spGcdG:Sp:=fun vs H Q _=>∃ u d:Int,vs = [.int u,.int d]∧0≤u∧0 < d∧Q (.int (gcdI u d)) H
def spLowG:Sp:=fun vs H Q _=>∃ u d:Int,vs = [.int u,.int d]∧0≤u∧0 < d∧d < 2 ^ 8000∧∀ p,H p = none→Q (.ref p) (upd H p (frO (low u d)))
theorem gcdG_imp {vs:List V} {H:Hp} {Q:VK} {E:XK} (h:spGcd vs H Q E):spGcdG vs H Q E:=by
  obtain ⟨u,d,rfl,h1,h2,h3,k⟩:=h
  exact ⟨u,d,rfl,h1,h2,k⟩
theorem lowG_imp {vs:List V} {H:Hp} {Q:VK} {E:XK} (h:spLow vs H Q E):spLowG vs H Q E:=by
  obtain ⟨u,d,rfl,h1,h2,h3,k⟩:=h
  refine ⟨u,d,rfl,h1,h2,?_,k⟩
  have h4:=pow_mono2 (a:=30) (b:=8000) (by decide)
  have h5:(2:Int) ^ 30 = 1073741824:=by decide
  omega
theorem ok_gcdG {f:Addr} {fd:FuncData} (F:Fun K "greatest_divisor" "greatest_divisor" sGcd f fd):FnOk P w K mg base CX0 1 f fd ["one", "other"] spGcdG:=by
  refine F.ok scGcd (fun vs H Q E h=>?_) (fun cdv A outer s H vs Q E hr h=>?_)
  · obtain ⟨a,b,rfl,_⟩:=h; rfl
  · obtain ⟨u,d,rfl,hu0,hd0,k⟩:=h
    have nd:=scGcd.nd
    refine ⟨_,pss_cons (ps_while PassesOwn.never (pt_cmpR op_ne (pv 1) pe_int (nomark _))
        (pss_cons (ps_set (i:=2) nd rfl (Or.inl rfl) (pe_op op_mod (pv 0) (pv 1))) (pss_cons (ps_set (i:=0) nd rfl (Or.inl rfl) (pv 1)) (pss_one (ps_set (i:=1) nd rfl (Or.inl rfl) (pv 2))))))
      (pss_one (ps_ret (pv 0))),?_⟩
    refine ⟨fun m σ H'=>H' = H∧∃ (a b:Int) (r:Option V),σ = [some (.int a),some (.int b),r]∧m = b.toNat∧0≤a∧0≤b∧Int.gcd a b = Int.gcd u d,⟨_,rfl,u,d,none,rfl,rfl,hu0,Int.le_of_lt hd0,rfl⟩,?_⟩
    rintro m σ H' ⟨rfl,a,b,r,rfl,rfl,ha,hb,hg⟩
    refine ⟨_,rfl,rfl,_,rfl,?_⟩
    by_cases hz:b = 0
    · subst hz
      refine iteNS rfl ⟨_,rfl,?_⟩
      have e:a = gcdI u d:=by
        unfold gcdI
        rw [← hg]
        obtain ⟨x,rfl⟩:=Int.eq_ofNat_of_zero_le ha
        simp
      show Q (.int a) H'
      rw [e]
      exact k
    · have hb0:0 < b:=by omega
      have hne:¬ (V.int b = V.int 0):=fun z=>hz (V.int.inj z)
      have et:(!decide (V.int b = V.int 0)) = true:=by rw [decide_eq_false hne]; rfl
      show if (!decide (V.int b = V.int 0)) = true then _ else _
      rw [if_pos et]
      refine ⟨fun σ' H''=>H'' = H'∧σ' = [some (.int b),some (.int (a % b)),some (.int (a % b))],?_,?_⟩
      · rintro σ' H'' ⟨rfl,rfl⟩
        have h1:=Int.emod_nonneg a hz
        have h2:=Int.emod_lt_of_pos a hb0
        exact ⟨(a % b).toNat,by omega,rfl,b,a % b,_,rfl,rfl,hb,h1,by rw [gcd_step ha hb0]; exact hg⟩
      · exact ⟨_,rfl,_,rfl,_,_,rfl,rfl,hb0,_,rfl,_,rfl,rfl,rfl⟩
theorem ok_lowG {f:Addr} {fd:FuncData} (F:Fun K "lowest" "lowest" sLow f fd) (c1:Cal P w K mg base 1 "greatest_divisor" ["one", "other"] spGcdG):FnOk P w K mg base CX0 2 f fd ["up", "down"] spLowG:=by
  refine F.ok scLow (fun vs H Q E h=>?_) (fun cdv A outer s H vs Q E hr h=>?_)
  · obtain ⟨a,b,rfl,_⟩:=h; rfl
  · obtain ⟨u,d,rfl,hu0,hd0,hd1,k⟩:=h
    have nd:=scLow.nd
    refine ⟨_,pss_cons (ps_set (i:=2) nd rfl (Or.inl rfl) (pe_cal c1 hr rfl (pa_cons (pv 0) (pa_cons (pv 1) pa_nil))))
      (pss_one (ps_ret (pe_tup (pa_cons (pe_op op_fdivG (pv 0) (pv 2)) (pa_cons (pe_op op_fdivG (pv 1) (pv 2)) pa_nil))))),?_⟩
    have g1:=gcdI_pos (u:=u) hd0
    have g2:gcdI u d≤d:=Int.le_of_dvd hd0 (Int.gcd_dvd_right ..)
    refine ⟨_,rfl,_,rfl,u,d,rfl,hu0,hd0,?_⟩
    exact ⟨_,rfl,_,rfl,_,_,rfl,rfl,⟨g1,by omega⟩,_,rfl,_,rfl,_,_,rfl,rfl,⟨g1,by omega⟩,by show 2≤sizeLine; decide,k⟩
def spNeedWhole:Sp:=fun vs H Q _=>∃ o a b:Nat,vs = [.int o,.int a,.int b]∧a≤o∧o≤b∧Q .non H
abbrev sNeedWhole:Stmt:=top 17
theorem scNeedWhole:FnScope ["thing", "least", "most"] ["thing", "least", "most"] (defScope sNeedWhole):=⟨rfl,rfl,rfl,by decide +kernel,rfl,by decide +kernel,by decide +kernel⟩
theorem ok_needwhole {f:Addr} {fd:FuncData} (F:Fun K "need_whole" "need_whole" sNeedWhole f fd) (c1:Cal P w K mg base 1 "is_whole" ["thing", "least", "most"] spIsWhole):FnOk P w K mg base CX0 2 f fd ["thing", "least", "most"] spNeedWhole:=by
  refine F.ok scNeedWhole (fun vs H Q E h=>?_) (fun cdv A outer s H vs Q E hr h=>?_)
  · obtain ⟨o,a,b,rfl,_⟩:=h; rfl
  · obtain ⟨o,a,b,rfl,n1,n2,k⟩:=h
    refine ⟨_,pss_one (ps_if (pt_not (pt_val (pe_cal c1 hr rfl (pa_cons (pv 0) (pa_cons (pv 1) (pa_cons (pv 2) pa_nil)))))) (pss_one ps_never) pss_nil),?_⟩
    exact ⟨_,rfl,_,rfl,_,rfl,o,a,b,rfl,n1,n2,true,rfl,iteF k⟩
def spNeedLen:Sp:=fun vs H Q _=>∃ n:Nat,vs = [.int n]∧1≤n∧n≤8∧Q .non H
abbrev sNeedLen:Stmt:=top 50
theorem scNeedLen:FnScope ["thing"] ["thing"] (defScope sNeedLen):=⟨rfl,rfl,rfl,by decide +kernel,rfl,by decide +kernel,by decide +kernel⟩
theorem ok_needlen {f:Addr} {fd:FuncData} (F:Fun K "need_length" "need_length" sNeedLen f fd) (C:Cst K mg) (c1:Cal P w K mg base 2 "need_whole" ["thing", "least", "most"] spNeedWhole):FnOk P w K mg base CX0 3 f fd ["thing"] spNeedLen:=by
  obtain ⟨t8,h8⟩:=C.ml
  refine F.ok scNeedLen (fun vs H Q E h=>?_) (fun cdv A outer s H vs Q E hr h=>?_)
  · obtain ⟨n,rfl,_⟩:=h; rfl
  · obtain ⟨n,rfl,n1,n2,k⟩:=h
    refine ⟨_,pss_one (ps_expr (pe_cal c1 hr rfl (pa_cons (pv 0) (pa_cons pe_int (pa_cons (pe_glob (v:=.int 8) (by rfl) h8 ⟨_,rfl⟩) pa_nil))))),?_⟩
    exact ⟨_,rfl,n,1,8,rfl,n1,n2,k⟩
theorem made_list (ps:List (S × S)) (O1:Ones ps) (o n:Nat):∃ M:List S,M.Nodup∧∀ x,x∈M↔Made ps o n x :=
  ⟨_,(Tx_nodup (lts ps) O1 o n).filter _,fun x=>(made_iff (lts ps) O1 o n x).symm⟩
theorem made_len {ps:List (S × S)} {o n:Nat} {M M':List S} (h1:M.Nodup) (h2:∀ x,x∈M↔Made ps o n x) (h3:M'.Nodup) (h4:∀ x,x∈M'↔Made ps o n x):M.length = M'.length :=
  (perm_of h1 h3 fun x=>by rw [h2,h4]).length_eq
theorem rep_flat (n:Nat):(List.replicate n [V.str ""]).flatten = (List.replicate n ([]:S)).map sv:=by
  induction n with
  | zero=>rfl
  | succ n ih=>rw [List.replicate_succ,List.flatten_cons,ih,List.replicate_succ,List.map_cons]; rfl
abbrev sHMR:Stmt:=top 51
theorem scHMR:FnScope ["rows", "order", "length"] ["rows", "order", "length"] (defScope sHMR):=⟨rfl,rfl,rfl,by decide +kernel,rfl,by decide +kernel,by decide +kernel⟩
def IsMany (ps:List (S × S)) (o n N:Nat):Prop:=∀ M:List S,M.Nodup→(∀ x,x∈M↔Made ps o n x)→N = M.length
def spHMR:Sp:=fun vs H Q _=>∃ (d:Addr) (o n:Nat) (bk:List S),vs = [.ref d,.int o,.int n]∧Bk bk o∧RowsAt H d (pairsB o bk)∧n≤8∧∀ (N:Nat) (H':Hp),Same H H'→IsMany (pairsB o bk) o n N→Q (.int N) H'
theorem ok_HMR {f:Addr} {fd:FuncData} (F:Fun K "how_many_by_rows" "how_many_by_rows" sHMR f fd) (hA:∃ t,mg "ANY" = some (.str "" t)) (cE:Cal P w K mg base 1 "even_parts" ["rows"] (spEven K)) (cS:Cal P w K mg base 3 "sum_along" ["parts", "order", "weight", "pattern"] (spSumA K)):FnOk P w K mg base CX0 4 f fd ["rows", "order", "length"] spHMR:=by
  obtain ⟨u,hA⟩:=hA
  refine F.ok scHMR (fun vs H Q E h=>?_) (fun cdv A outer s H vs Q E hr h=>?_)
  · obtain ⟨d,o,n,bk,rfl,_⟩:=h; rfl
  · obtain ⟨d,o,n,bk,rfl,hb,R,hn8,k⟩:=h
    have r1:=hr.mono (j:=1) (by decide)
    have h72:=pairs72L hb
    refine ⟨_,pss_one (ps_ret (pe_cal cS hr rfl (pa_cons (pe_cal cE r1 rfl (pa_cons (pv 0) pa_nil)) (pa_cons (pv 1) (pa_cons pe_int (pa_cons (pe_op op_rep (pe_lst (pa_cons (pe_glob (v:=.str "") (by rfl) hA ⟨_,rfl⟩) pa_nil)) (pv 2)) pa_nil)))))),?_⟩
    refine ⟨_,rfl,d,pairsB o bk,rfl,R,by omega,fun pd H1 s1 hpd hP=>?_⟩
    refine ⟨_,rfl,by show 1≤sizeLine; decide,fun l0 hl0=>?_⟩
    have s2:Same H1 (upd H1 l0 (.lst [V.str ""])):=Same.upd1 hl0
    refine ⟨_,rfl,l0,n,[V.str ""],rfl,rfl,upd_same,by omega,by omega,by rw [sizeLine_eq]; show 1 * (n:Int).toNat≤_; omega,fun pl hpl=>?_⟩
    have s3:Same (upd H1 l0 (.lst [V.str ""])) (upd (upd H1 l0 (.lst [V.str ""])) pl (.lst (List.replicate (n:Int).toNat [V.str ""]).flatten)):=Same.upd1 hpl
    refine ⟨pd,pl,o,bk,fun _ _=>(1,1),1,List.replicate n [],rfl,hb,(hP.same s2).same s3,fun _ _=>(by decide:(0:Int)≤1∧(1:Int) < 1000000∧(0:Int) < 1∧(1:Int) < 1000000),?_,by rw [List.length_replicate]; omega,fun H4 s4=>?_⟩
    · rw [upd_same]
      have:(n:Int).toNat = n:=by omega
      rw [this,rep_flat]
    · obtain ⟨M,hM1,hM2⟩:=made_list (pairsB o bk) (ones_B o bk) o n
      have e:tots (fun e h=>lft h (lastQ (pairsB o bk) (fun _ _=>(1,1)) e)) (Ss (nxOf (pairsB o bk)) (fun _ _=>(1,1)) o 1 (List.replicate n [])) = (M.length:Int):=all_count (lts _) (ones_B o bk) hM1 hM2
      rw [e]
      exact k M.length H4 ((s1.trans s2).trans (s3.trans s4)) fun M' h1 h2=>made_len hM1 hM2 h1 h2
abbrev sHM:Stmt:=top 52
theorem scHM:FnScope ["book", "order", "length"] ["book", "order", "length"] (defScope sHM):=⟨rfl,rfl,rfl,by decide +kernel,rfl,by decide +kernel,by decide +kernel⟩
def spHM:Sp:=fun vs H Q _=>∃ (a:Addr) (bk:List S) (o n:Nat),vs = [.ref a,.int o,.int n]∧H a = some (.tup (bkV bk))∧Bk bk o∧1≤n∧n≤8∧∀ (N:Nat) (H':Hp),Same H H'→IsMany (pairsB o bk) o n N→Q (.int N) H'
structure NeedL (P:Program) (w:World) (K:PySem.W.Frag) (mg:Str→Option Value) (base:Heap):Prop where
  bk:Cal P w K mg base 3 "need_book" ["thing"] spNeedBook
  od:Cal P w K mg base 3 "need_order" ["thing"] spNeedOrder
  ln:Cal P w K mg base 3 "need_length" ["thing"] spNeedLen
  rows:Cal P w K mg base 3 "counted_rows" ["book", "order"] spRows
theorem ok_HM {f:Addr} {fd:FuncData} (F:Fun K "how_many" "how_many" sHM f fd) (N:NeedL P w K mg base) (cH:Cal P w K mg base 4 "how_many_by_rows" ["rows", "order", "length"] spHMR):FnOk P w K mg base CX0 5 f fd ["book", "order", "length"] spHM:=by
  refine F.ok scHM (fun vs H Q E h=>?_) (fun cdv A outer s H vs Q E hr h=>?_)
  · obtain ⟨a,bk,o,n,rfl,_⟩:=h; rfl
  · obtain ⟨a,bk,o,n,rfl,ha,hb,hn1,hn8,k⟩:=h
    have r3:=hr.mono (j:=3) (by decide)
    refine ⟨_,pss_cons (ps_expr (pe_cal N.bk r3 rfl (pa_cons (pv 0) pa_nil))) (pss_cons (ps_expr (pe_cal N.od r3 rfl (pa_cons (pv 1) pa_nil))) (pss_cons (ps_expr (pe_cal N.ln r3 rfl (pa_cons (pv 2) pa_nil)))
      (pss_one (ps_ret (pe_cal cH hr rfl (pa_cons (pe_cal N.rows r3 rfl (pa_cons (pv 0) (pa_cons (pv 1) pa_nil))) (pa_cons (pv 1) (pa_cons (pv 2) pa_nil)))))))),?_⟩
    refine ⟨_,rfl,a,bk,rfl,ha,hb.toisBk,fun H1 s1=>?_⟩
    refine ⟨_,rfl,o,rfl,hb.o1,hb.o3,?_⟩
    refine ⟨_,rfl,n,rfl,hn1,hn8,?_⟩
    refine ⟨_,rfl,_,rfl,a,bk,o,rfl,s1 _ _ ha,hb.hi,hb.l8,hb.o1,fun d H2 s2 hd R=>?_⟩
    exact ⟨_,rfl,_,rfl,d,o,n,bk,rfl,hb,R,hn8,fun N H3 s3 hN=>k N H3 ((s1.trans s2).trans s3) hN⟩
abbrev sAM:Stmt:=top 56
theorem scAM:FnScope ["book", "order", "length", "rows", "closing", "texts", "left"] ["book", "order", "length"] (defScope sAM):=⟨rfl,rfl,rfl,by decide +kernel,rfl,by decide +kernel,by decide +kernel⟩
def spAM:Sp:=fun vs H Q _=>∃ (a:Addr) (bk:List S) (o n:Nat),vs = [.ref a,.int o,.int n]∧H a = some (.tup (bkV bk))∧Bk bk o∧Abz bk∧(pairsB o bk).length < 64∧1≤n∧n≤8 ∧
  ∀ (l:Addr) (A:List S) (H':Hp),Same H H'→H l = none→H' l = some (.lst (A.map sv))→AllT (pairsB o bk) o n n A→A.length≤3 ^ n→Q (.ref l) H'
theorem ok_AM {f:Addr} {fd:FuncData} (F:Fun K "all_made" "all_made" sAM f fd) (B:Blt mg) (N:NeedL P w K mg base) (cC:Cal P w K mg base 3 "closing_ends" ["rows", "order", "length"] spCE) (cL:Cal P w K mg base 3 "lengthened" ["rows", "order", "texts", "targets"] spLng):FnOk P w K mg base CX0 4 f fd ["book", "order", "length"] spAM:=by
  refine F.ok scAM (fun vs H Q E h=>?_) (fun cdv A outer s H vs Q E hr h=>?_)
  · obtain ⟨a,bk,o,n,rfl,_⟩:=h; rfl
  · obtain ⟨a,bk,o,n,rfl,ha,hb,habz,h64,hn1,hn8,k⟩:=h
    have nd:=scAM.nd
    refine ⟨_,pss_cons (ps_expr (pe_cal N.bk hr rfl (pa_cons (pv 0) pa_nil))) (pss_cons (ps_expr (pe_cal N.od hr rfl (pa_cons (pv 1) pa_nil))) (pss_cons (ps_expr (pe_cal N.ln hr rfl (pa_cons (pv 2) pa_nil)))
      (pss_cons (ps_set (i:=3) nd rfl (Or.inl rfl) (pe_cal N.rows hr rfl (pa_cons (pv 0) (pa_cons (pv 1) pa_nil))))
      (pss_cons (ps_set (i:=4) nd rfl (Or.inl rfl) (pe_cal cC hr rfl (pa_cons (pv 3) (pa_cons (pv 1) (pa_cons (pv 2) pa_nil)))))
      (pss_cons (ps_set (i:=5) nd rfl (Or.inl rfl) (pe_lst (pa_cons pe_str pa_nil)))
      (pss_cons (ps_for PassesOwn.never rfl (pi_rangeD rfl B.range (pa_cons (pe_op op_sub (pv 2) pe_int) (pa_cons (pe_un un_neg pe_int) (pa_cons (pe_un un_neg pe_int) pa_nil)))) (pg_name (i:=6) nd rfl (Or.inl rfl))
          (pss_one (ps_set (i:=5) nd rfl (Or.inl rfl) (pe_cal cL hr rfl (pa_cons (pv 3) (pa_cons (pv 1) (pa_cons (pv 5) (pa_cons (pe_ix ix_list (pv 4) (pv 6) (fun _ _=>rfl)) pa_nil))))))))
      (pss_one (ps_ret (pv 5))))))))),?_⟩
    refine ⟨_,rfl,a,bk,rfl,ha,hb.toisBk,fun H1 s1=>?_⟩
    refine ⟨_,rfl,o,rfl,hb.o1,hb.o3,?_⟩
    refine ⟨_,rfl,n,rfl,hn1,hn8,?_⟩
    refine ⟨_,rfl,_,rfl,a,bk,o,rfl,s1 _ _ ha,hb.hi,hb.l8,hb.o1,fun d H2 s2 hd R=>?_⟩
    refine ⟨_,rfl,_,rfl,_,rfl,d,o,n,bk,rfl,hb,h64,R,hn1,hn8,fun c cl H3 s3 hc hcl hcn=>?_⟩
    have s13:=(s1.trans s2).trans s3
    refine ⟨by show 1≤sizeLine; decide,fun t0 ht0=>?_⟩
    have s4:Same H3 (upd H3 t0 (.lst [V.str ""])):=Same.upd1 ht0
    refine ⟨_,rfl,_,_,rfl,rfl,_,rfl,_,rfl,(n:Int) - 1,-1,rfl,⟨by omega,by omega,by decide,by decide⟩,?_⟩
    have enn:((n:Int) - 1 - -1).toNat = n:=by omega
    have t0H:H t0 = none:=s13.free ht0
    obtain ⟨hc1,hc2⟩:=hcl
    refine for_known (known_rangeS _ _ _) (fun i σ H'=>∃ (tt:Addr) (x6:Option V) (A:List S),σ = [some (.ref a),some (.int o),some (.int n),some (.ref d),some (.ref c),some (.ref tt),x6]∧H tt = none∧H' tt = some (.lst (A.map sv))∧AllT (pairsB o bk) o n i A∧A.length≤3 ^ i∧Same H3 H')
      ⟨t0,_,[[]],rfl,t0H,upd_same,AllT.start _ _ _,by simp,s4⟩ (fun _ _ _ _ _=>trivial) ?_ ?_
    · rintro i x σ H' Nx hN hx ⟨tt,x6,A,rfl,htt,hA,hAT,hAl,sm⟩
      rw [enn] at hx
      have hi:i < n:=by
        have:=(List.getElem?_eq_some_iff.mp hx).1
        simpa using this
      rw [List.getElem?_map,List.getElem?_range hi] at hx
      have hx2:x = V.int ((n - 1 - i:Nat):Int):=by
        have h1:V.int ((n:Int) - 1 + (i:Int) * -1) = x:=Option.some.inj hx
        rw [← h1]
        congr 1
        omega
      subst hx2
      obtain ⟨q,hq⟩:∃ q,cl[n - 1 - i]? = some q:=⟨_,List.getElem?_eq_getElem (by omega)⟩
      obtain ⟨_,q2,q3⟩:=hc2 _ _ hq
      have hat:atI (cl.map fun q=>V.ref q.1) ((n - 1 - i:Nat):Int) = some (V.ref q.1):=atI_nat (by rw [List.getElem?_map,hq]; rfl)
      have hl3:A.length≤6561:=by
        have h1:3 ^ i≤3 ^ 8:=Nat.pow_le_pow_right (by decide) (by omega)
        have h2:3 ^ 8 = 6561:=by decide
        omega
      have hArow:∀ t∈A,t.length≤8∧∃ l,(endOf t o,l)∈pairsB o bk:=fun t ht=>by
        obtain ⟨g1,g2,g3⟩:=hAT.snd t ht
        refine ⟨by omega,?_⟩
        by_cases hi0:0 < i
        · exact cl_row (g3 hi0)
        · have:t = []:=List.length_eq_zero_iff.mp (by omega)
          rw [this]
          have e0:endOf ([]:S) o = []:=by unfold endOf; simp
          rw [e0]
          exact start_row hb
      refine ⟨_,rfl,_,rfl,_,rfl,_,rfl,_,rfl,c,_,((n - 1 - i:Nat):Int),V.ref q.1,rfl,rfl,.of (sm _ _ hc1),hat,d,tt,q.1,o,bk,A,q.2,rfl,hb,habz,h64,(R.same s3).same sm,hA,sm _ _ q2,by omega,hArow,fun l lt H5 s5 hl hlead hres=>?_⟩
      have hlt:∀ t∈A,LeadL (pairsB o bk) o q.2 (endOf t o) (lt (endOf t o)):=fun t ht=>hlead _ (hArow t ht).2
      refine hN _ _ ⟨l,_,_,rfl,(s13.trans sm).free hl,hres,hAT.step (ones_B o bk) hi lt (fun t ht=>(hlt t ht).1) (fun t ht x=>?_),?_,sm.trans s5⟩
      · rw [(hlt t ht).2,q3,show n - (i + 1) = n - 1 - i by omega]
      · have h1:=flat_3 A (fun t=>(lt (endOf t o)).map (t ++ ·)) fun t ht=>by
          rw [List.length_map]
          exact lets_3 habz (e:=endOf t o) (hlt t ht).1 fun x hx=>⟨(((hlt t ht).2 x).mp hx).1,(((hlt t ht).2 x).mp hx).2.1⟩
        rw [Nat.pow_succ]; omega
    · rintro σ H' ⟨tt,x6,A,rfl,htt,hA,hAT,hAl,sm⟩
      rw [List.length_map,List.length_range,enn] at hAT hAl
      exact ⟨_,rfl,k tt A H' (s13.trans sm) htt hA hAT hAl⟩
end
end Kn.Ln
end
section
set_option Elab.async false
set_option linter.all false
set_option maxRecDepth 100000
set_option maxHeartbeats 1000000
namespace Kn.Ln
open PySem L2 Kn
theorem comp_nilK {J:It} {items:List V} {Hk:Hp→Prop} (kn:Known J items Hk) {caps:List Nat} {m n:Nat} {σ:St} {tc:TT} {H1:Hp} {F:List V→Hp→Prop} (cv:St) (hn:items.length < 1000)
    (hk:∀ H',Same H1 H'→Hk H') (test:∀ (i:Nat) (x:V) (H5:Hp) (Z:Bool→Hp→Prop),items[i]? = some x→Same H1 H5→(∀ H6,Same H5 H6→Z false H6)→tc (cv ++ [some x]) H5 Z)
    (k:∀ H',Same H1 H'→F [] H') (hcv:capStart caps n σ = cv ++ List.replicate 1 none:=by rfl) (hm:cv.length = m:=by rfl) :
    ∃ W:Nat→Nat→List V→St→Hp→Prop,(∃ m,W 0 m [] (capStart caps n σ) H1)∧∀ i m' acc σ' H',W i m' acc σ' H' →
      (J.stop i H'∧F acc H') ∨
      (J.go i H'∧acc.length < sizeLine∧∀ x H2,J.yld i H' x H2→gName m x σ' H2 fun σ2 H3=>tc σ2 H3 fun b H4=>if b = true then tVar m σ2 H4 fun y H5=>∃ m'',m'' < m'∧W (i + 1) m'' (acc ++ [y]) σ2 H5 else ∃ m'',m'' < m'∧W (i + 1) m'' acc σ2 H4):=by
  refine comp_known kn cv 1 hn (fun i acc H'=>Same H1 H'∧acc = []) ⟨Same.refl _,rfl⟩ (fun i acc H' _ h=>⟨hk H' h.1,by rw [h.2]; exact Nat.zero_le _⟩) ?_ ?_ hcv
  · rintro i x acc H' ys Nx hN hx hy ⟨sm,rfl⟩
    obtain ⟨y',rfl⟩:=ys1L hy
    show tc ((cv ++ [y']).set m (some x)) H' _
    rw [set_last hm]
    exact test i x H' _ hx sm fun H6 s6=>iteF (hN _ _ [some x] rfl ⟨sm.trans s6,rfl⟩)
  · rintro acc H' ⟨sm,rfl⟩
    exact k H' sm
end Kn.Ln
end
section
set_option Elab.async false
set_option linter.all false
set_option maxRecDepth 100000
set_option maxHeartbeats 1000000
namespace Kn
open PySem L2
section
variable {P:Program} {w:World} {K:PySem.W.Frag} {mg:Str→Option Value} {base:Heap}
end
end Kn
end
section
set_option Elab.async false
set_option linter.all false
set_option maxRecDepth 100000
set_option maxHeartbeats 1000000
namespace L2
open PySem PySem.Spec PyProof.Rows
section
variable {prog:Program} {w:World} {A:Around} {E:Value→Shared→Prop} {h:Heap} {g:Array GenState} {d:Drawn} {t:Nat} {os:OsState} {K:PySem.W.Frag} {C a:Addr} {o:Obj} {vs:Array Value}
end
section
variable {X:Cx}
end
end L2
end
section
set_option Elab.async false
set_option linter.all false
set_option maxRecDepth 100000
set_option maxHeartbeats 1000000
namespace L2
open PySem PySem.Spec PyProof.Rows
section
variable {X:Cx}
end
end L2
end
section
set_option Elab.async false
set_option linter.all false
set_option maxRecDepth 100000
set_option maxHeartbeats 1000000
namespace Kn
open PySem L2
mutual
def Thg (H:Hp):PyData→V→Prop
  | .none,v=>v = .non
  | .bool b,v=>v = .bl b
  | .int i,v=>v = .int i
  | .str x,v=>v = .str x
  | .list ds,v=>∃ a xs,v = .ref a∧H a = some (.lst xs)∧Thgs H ds xs
  | .tuple ds,v=>∃ a xs,v = .ref a∧H a = some (.tup xs)∧Thgs H ds xs
  | .dict _,_=>False
def Thgs (H:Hp):List PyData→List V→Prop
  | [],xs=>xs = []
  | d :: ds,xs=>∃ y ys,xs = y :: ys∧Thg H d y∧Thgs H ds ys
end
mutual
theorem Thg.same {H H':Hp} (e:Same H H'):∀ (d:PyData) (v:V),Thg H d v→Thg H' d v
  | .none,v,h=>h
  | .bool b,v,h=>h
  | .int i,v,h=>h
  | .str x,v,h=>h
  | .list ds,v,h=>by
    obtain ⟨a,xs,h1,h2,h3⟩:=h
    exact ⟨a,xs,h1,e _ _ h2,Thgs.same e ds xs h3⟩
  | .tuple ds,v,h=>by
    obtain ⟨a,xs,h1,h2,h3⟩:=h
    exact ⟨a,xs,h1,e _ _ h2,Thgs.same e ds xs h3⟩
  | .dict _,v,h=>h
theorem Thgs.same {H H':Hp} (e:Same H H'):∀ (ds:List PyData) (xs:List V),Thgs H ds xs→Thgs H' ds xs
  | [],xs,h=>h
  | d :: ds,xs,h=>by
    obtain ⟨y,ys,h1,h2,h3⟩:=h
    exact ⟨y,ys,h1,Thg.same e d y h2,Thgs.same e ds ys h3⟩
end
mutual
theorem Thg.rep {K:PySem.W.Frag} {H:Hp}:∀ (d:PyData) (v:V),Thg H d v→Rep K H d v
  | .none,v,h=>h
  | .bool b,v,h=>h
  | .int i,v,h=>h
  | .str x,v,h=>h
  | .list ds,v,h=>by
    obtain ⟨a,xs,h1,h2,h3⟩:=h
    exact ⟨a,xs,h1,.of h2,Thgs.reps ds xs h3⟩
  | .tuple ds,v,h=>by
    obtain ⟨a,xs,h1,h2,h3⟩:=h
    exact ⟨a,xs,h1,.of h2,Thgs.reps ds xs h3⟩
  | .dict _,v,h=>h
theorem Thgs.reps {K:PySem.W.Frag} {H:Hp}:∀ (ds:List PyData) (xs:List V),Thgs H ds xs→Reps K H ds xs
  | [],xs,h=>h
  | d :: ds,xs,h=>by
    obtain ⟨y,ys,h1,h2,h3⟩:=h
    exact ⟨y,ys,h1,Thg.rep d y h2,Thgs.reps ds ys h3⟩
end
theorem Thgs.length {H:Hp}:∀ {ds:List PyData} {xs:List V},Thgs H ds xs→ds.length = xs.length
  | [],xs,h=>by rw [show xs = [] from h]; rfl
  | d :: ds,xs,h=>by
    obtain ⟨y,ys,h1,_,h3⟩:=h
    rw [h1,List.length_cons,List.length_cons,Thgs.length h3]
theorem Thgs.get {H:Hp}:∀ {ds:List PyData} {xs:List V} {i:Nat} {y:V},Thgs H ds xs→xs[i]? = some y→∃ d,ds[i]? = some d∧Thg H d y
  | [],xs,i,y,h,e=>by rw [show xs = [] from h] at e; simp at e
  | d :: ds,xs,i,y,h,e=>by
    obtain ⟨z,zs,h1,h2,h3⟩:=h
    subst h1
    cases i with
    | zero =>
      have:z = y:=by simpa using e
      subst this
      exact ⟨d,rfl,h2⟩
    | succ i =>
      obtain ⟨d',e1,e2⟩:=Thgs.get (i:=i) h3 (by simpa using e)
      exact ⟨d',by simpa using e1,e2⟩
theorem Thgs.strs {H:Hp}:∀ (l:List S),Thgs H (l.map fun x=>PyData.str (tx x)) (l.map sv)
  | []=>rfl
  | x :: l=>⟨_,_,rfl,rfl,Thgs.strs l⟩
mutual
def sml:PyData→Bool
  | .str x=>decide (x.length≤900) && x.cps.toList.all fun c=>decide (c < 128)
  | .list ds=>decide (ds.length≤900) && smls ds
  | .tuple ds=>decide (ds.length≤900) && smls ds
  | .dict _=>false
  | _=>true
def smls:List PyData→Bool
  | []=>true
  | d :: ds=>sml d && smls ds
end
theorem smls_mem:∀ {ds:List PyData} {d:PyData},smls ds = true→d∈ds→sml d = true
  | e :: ds,d,h,hm=>by
    have h':sml e = true∧smls ds = true:=by simpa [smls] using h
    rcases List.mem_cons.mp hm with z | z
    · rw [z]; exact h'.1
    · exact smls_mem h'.2 z
def isLet (c:Nat):Bool:=decide (97≤c) && decide (c≤122)
def isNameD:PyData→Bool
  | .str x=>(decide (1≤x.length) && decide (x.length≤8)) && x.cps.toList.all isLet
  | _=>false
def isBookD:PyData→Bool
  | .tuple ds=>(decide (1≤ds.length) && decide (ds.length≤8)) && ds.all isNameD
  | _=>false
def isOrderD:PyData→Bool
  | .int i=>decide (1≤i) && decide (i≤3)
  | _=>false
theorem isNameD_inv {d:PyData} (h:isNameD d = true):∃ x:S,d = .str (tx x)∧isNm x:=by
  cases d with
  | str x =>
    simp only [isNameD,Bool.and_eq_true,decide_eq_true_eq,List.all_eq_true,isLet] at h
    refine ⟨x.cps.toList,by rw [tx_eta],?_,?_,h.2⟩
    · have:=h.1.1; simpa [Str.length] using this
    · have:=h.1.2; simpa [Str.length] using this
  | none=>cases h
  | bool b=>cases h
  | int i=>cases h
  | list ds=>cases h
  | tuple ds=>cases h
  | dict _=>cases h
theorem isNameD_of {x:S} (h:isNm x):isNameD (.str (tx x)) = true:=by
  simp only [isNameD,Bool.and_eq_true,decide_eq_true_eq,List.all_eq_true,isLet,tx_len,tx_cps]
  exact ⟨⟨h.1,h.2.1⟩,h.2.2⟩
theorem isBookD_inv {d:PyData} (h:isBookD d = true):∃ bk:List S,d = .tuple (bk.map fun x=>PyData.str (tx x))∧isBk bk:=by
  cases d with
  | tuple ds =>
    simp only [isBookD,Bool.and_eq_true,decide_eq_true_eq,List.all_eq_true] at h
    obtain ⟨⟨h1,h2⟩,h3⟩:=h
    have go:∀ ds:List PyData,(∀ d∈ds,isNameD d = true)→∃ bk:List S,ds = bk.map (fun x=>PyData.str (tx x))∧∀ x∈bk,isNm x:=by
      intro ds
      induction ds with
      | nil=>intro _; exact ⟨[],rfl,by simp⟩
      | cons d ds ih =>
        intro hd
        obtain ⟨x,rfl,hx⟩:=isNameD_inv (hd d (List.mem_cons_self ..))
        obtain ⟨bk,rfl,hb⟩:=ih fun e he=>hd e (List.mem_cons_of_mem _ he)
        refine ⟨x :: bk,rfl,fun y hy=>?_⟩
        rcases List.mem_cons.mp hy with z | z
        · rw [z]; exact hx
        · exact hb y z
    obtain ⟨bk,rfl,hb⟩:=go ds h3
    rw [List.length_map] at h1 h2
    exact ⟨bk,rfl,h1,h2,hb⟩
  | none=>cases h
  | bool b=>cases h
  | int i=>cases h
  | list ds=>cases h
  | str x=>cases h
  | dict _=>cases h
theorem isBookD_of {bk:List S} (h:isBk bk):isBookD (.tuple (bk.map fun x=>PyData.str (tx x))) = true:=by
  simp only [isBookD,Bool.and_eq_true,decide_eq_true_eq,List.all_eq_true,List.length_map]
  refine ⟨⟨h.lo,h.hi⟩,fun d hd=>?_⟩
  obtain ⟨x,hx,rfl⟩:=List.mem_map.mp hd
  exact isNameD_of (h.nm x hx)
theorem Thgs.strs_inv {H:Hp}:∀ {l:List S} {xs:List V},Thgs H (l.map fun x=>PyData.str (tx x)) xs→xs = l.map sv
  | [],xs,h=>h
  | x :: l,xs,h=>by
    obtain ⟨y,ys,h1,h2,h3⟩:=h
    have h2':y = sv x:=h2
    rw [h1,h2',Thgs.strs_inv h3]; rfl
theorem thg_book {H:Hp} {d:PyData} {v:V} (h:Thg H d v) (hb:isBookD d = true):∃ (a:Addr) (bk:List S),v = .ref a∧H a = some (.tup (bkV bk))∧isBk bk∧d = .tuple (bk.map fun x=>PyData.str (tx x)):=by
  obtain ⟨bk,rfl,hk⟩:=isBookD_inv hb
  obtain ⟨a,xs,rfl,h1,h2⟩:=h
  rw [Thgs.strs_inv h2] at h1
  exact ⟨a,bk,rfl,h1,hk,rfl⟩
theorem thg_order {H:Hp} {d:PyData} {v:V} (h:Thg H d v) (hb:isOrderD d = true):∃ o:Nat,v = .int o∧1≤o∧o≤3:=by
  cases d with
  | int i =>
    simp only [isOrderD,Bool.and_eq_true,decide_eq_true_eq] at hb
    refine ⟨i.toNat,?_,by omega,by omega⟩
    rw [show v = .int i from h]
    congr 1
    omega
  | none=>cases hb
  | bool b=>cases hb
  | list ds=>cases hb
  | tuple ds=>cases hb
  | str x=>cases hb
  | dict _=>cases hb
structure KitF (K:PySem.W.Frag):Prop where
  ns:PySem.W.kitOne K (.type "NoneType") (.type "str") = some false
  bs:PySem.W.kitOne K (.type "bool") (.type "str") = some false
  is:PySem.W.kitOne K (.type "int") (.type "str") = some false
  ls:PySem.W.kitOne K (.type "list") (.type "str") = some false
  ts:PySem.W.kitOne K (.type "tuple") (.type "str") = some false
  nt:PySem.W.kitOne K (.type "NoneType") (.type "tuple") = some false
  bt:PySem.W.kitOne K (.type "bool") (.type "tuple") = some false
  it:PySem.W.kitOne K (.type "int") (.type "tuple") = some false
  lt:PySem.W.kitOne K (.type "list") (.type "tuple") = some false
  st:PySem.W.kitOne K (.type "str") (.type "tuple") = some false
  ni:PySem.W.kitOne K (.type "NoneType") (.type "int") = some false
  bi:PySem.W.kitOne K (.type "bool") (.type "int") = some true
  li:PySem.W.kitOne K (.type "list") (.type "int") = some false
  ti:PySem.W.kitOne K (.type "tuple") (.type "int") = some false
  si:PySem.W.kitOne K (.type "str") (.type "int") = some false
theorem in_letters128 {c:Nat} (h:c < 128):(Builtin.Str.occurrences letters ⟨#[c]⟩ 0 letters.length 1).isEmpty = !isLet c:=by
  have all:∀ d:_root_.Fin 128,(Builtin.Str.occurrences letters ⟨#[d.val]⟩ 0 letters.length 1).isEmpty = !isLet d.val:=by decide +kernel
  exact all ⟨c,h⟩
section
variable {P:Program} {w:World} {K:PySem.W.Frag} {mg:Str→Option Value} {base:Heap}
theorem ty_str (KF:KitF K) {H:Hp}:∀ {d:PyData} {v:V},Thg H d v→∃ t b,TyOf K H v t∧PySem.W.kitOne K t (.type "str") = some b∧(b = true↔∃ x,d = .str x)
  | .none,v,h=>by cases (show v = .non from h); exact ⟨_,_,.non,KF.ns,by simp⟩
  | .bool b,v,h=>by cases (show v = .bl b from h); exact ⟨_,_,.bl _,KF.bs,by simp⟩
  | .int i,v,h=>by cases (show v = .int i from h); exact ⟨_,_,.int _,KF.is,by simp⟩
  | .str x,v,h=>by cases (show v = .str x from h); exact ⟨_,true,.str _,rfl,by simp⟩
  | .list ds,v,h=>by obtain ⟨a,xs,rfl,h1,_⟩:=h; exact ⟨_,_,.lst h1,KF.ls,by simp⟩
  | .tuple ds,v,h=>by obtain ⟨a,xs,rfl,h1,_⟩:=h; exact ⟨_,_,.tup h1,KF.ts,by simp⟩
  | .dict _,v,h=>h.elim
theorem ty_tup (KF:KitF K) {H:Hp}:∀ {d:PyData} {v:V},Thg H d v→∃ t b,TyOf K H v t∧PySem.W.kitOne K t (.type "tuple") = some b∧(b = true↔∃ ds,d = .tuple ds)
  | .none,v,h=>by cases (show v = .non from h); exact ⟨_,_,.non,KF.nt,by simp⟩
  | .bool b,v,h=>by cases (show v = .bl b from h); exact ⟨_,_,.bl _,KF.bt,by simp⟩
  | .int i,v,h=>by cases (show v = .int i from h); exact ⟨_,_,.int _,KF.it,by simp⟩
  | .str x,v,h=>by cases (show v = .str x from h); exact ⟨_,_,.str _,KF.st,by simp⟩
  | .list ds,v,h=>by obtain ⟨a,xs,rfl,h1,_⟩:=h; exact ⟨_,_,.lst h1,KF.lt,by simp⟩
  | .tuple ds,v,h=>by obtain ⟨a,xs,rfl,h1,_⟩:=h; exact ⟨_,true,.tup h1,rfl,by simp⟩
  | .dict _,v,h=>h.elim
def spIsNameT:Sp:=fun vs H Q _=>∃ v d,vs = [v]∧Thg H d v∧sml d = true∧∀ H',Same H H'→Q (.bl (isNameD d)) H'
theorem ok_isnameT {f:Addr} {fd:FuncData} (F:Fun K "is_name" "is_name" sIsName f fd) (B:Blt mg) (C:Cst K mg) (KF:KitF K):FnOk P w K mg base CX0 1 f fd ["thing"] spIsNameT:=by
  obtain ⟨tl,hl⟩:=C.letters
  obtain ⟨t8,h8⟩:=C.ml
  refine F.ok scIsName (fun vs H Q E h=>?_) (fun cdv A outer s H vs Q E hr h=>?_)
  · obtain ⟨v,d,rfl,_⟩:=h; rfl
  · obtain ⟨v,d,rfl,hv,hs,k⟩:=h
    refine ⟨_,pss_cons (ps_if (PW.pt (pw_or (pt_not (pt_val (pe_callB call_isinst (by rfl) B.isinstance PyProof.Rows.boot_isinstance (pa_cons (pv 0) (pa_cons (pe_bltn (v:=.ty "str") (by rfl) B.str PyProof.Rows.boot_str rfl) pa_nil)))))
        (pw_or1 (pt_not (pt_chain op_le op_le pe_int (pe_callB call_len_str (by rfl) B.len PySem.boot_len (pa_cons (pv 0) pa_nil)) (pe_glob (v:=.int 8) (by rfl) h8 ⟨_,rfl⟩))))))
        (pss_one (ps_ret pe_bl)) pss_nil)
      (pss_one (ps_ret (pe_callB (call_all rfl) (by rfl) B.all PyProof.Rows.boot_all (pa_cons (pe_comp (N:=["letter"]) (caps:=[]) rfl (compScope_of (by kernel_rfl)) (pi_str (pv 0))
        (fun cl C s H ex=>pg_name (i:=0) nd1 rfl (Or.inl rfl)) (fun cl C s H ex=>pf_nil)
        (fun cl C s H ex=>pe_cmpR op_in_str (pv 0) (pe_glob (v:=.str letters) (by rfl) hl ⟨_,rfl⟩) (by with_unfolding_all rfl))) pa_nil)))),?_⟩
    obtain ⟨t,b,hty,hkit,hb⟩:=ty_str KF hv
    refine ⟨_,rfl,_,_,t,b,rfl,hty,hkit,b,rfl,?_⟩
    cases b with
    | false =>
      have hd:isNameD d = false:=by
        cases d with
        | str x=>exact absurd (hb.mpr ⟨x,rfl⟩) (by decide)
        | _=>rfl
      rw [hd] at k
      exact iteT (iteT (k H (Same.refl H)))
    | true =>
      obtain ⟨x,rfl⟩:=hb.mp rfl
      have hv':v = .str x:=hv
      subst hv'
      have hsx:x.length≤900∧∀ c∈x.cps.toList,c < 128:=by
        simp only [sml,Bool.and_eq_true,decide_eq_true_eq,List.all_eq_true] at hs
        exact hs
      refine iteF ?_
      refine ⟨_,rfl,x,rfl,(by rw [sizeLine_eq]; omega),_,_,rfl,rfl,_,rfl,?_⟩
      by_cases h1:1≤x.length
      · refine iteD (by omega) ⟨_,_,rfl,rfl,_,rfl,?_⟩
        by_cases h2:x.length≤8
        · refine iteNS (by omega) ?_
          refine ⟨_,rfl,_,rfl,?_⟩
          have hxl:x.cps.toList.length = x.length:=by simp [Str.length]
          refine comp_known0 (known_str x) [] 1 (by rw [List.length_map]; omega) (fun i acc H'=>Same H H'∧acc = ((x.cps.toList.take i).map isLet).map V.bl) ⟨Same.refl H,rfl⟩ (fun i acc H' _ h=>⟨trivial,by rw [h.2,List.length_map,List.length_map,List.length_take]; omega⟩) ?_ ?_
          · rintro i y acc H' ys Nx hN hx hy ⟨sm,rfl⟩
            obtain ⟨y',rfl⟩:=ys1 hy
            rw [List.getElem?_map] at hx
            cases e:x.cps.toList[i]? with
            | none=>rw [e] at hx; cases hx
            | some c =>
              rw [e] at hx
              have hy2:y = .str ⟨#[c]⟩:=(Option.some.inj hx).symm
              subst hy2
              have hi:i < x.cps.toList.length:=(List.getElem?_eq_some_iff.mp e).1
              refine ⟨_,rfl,_,_,rfl,rfl,?_⟩
              rw [in_letters128 (hsx.2 c (List.mem_of_getElem? e)),Bool.not_not]
              refine hN _ _ [some (.str ⟨#[c]⟩)] rfl ⟨sm,?_⟩
              rw [List.take_succ_eq_append_getElem hi,(List.getElem?_eq_some_iff.mp e).2,List.map_append,List.map_append]; rfl
          · rintro acc H' ⟨sm,rfl⟩ D hD
            rw [List.length_map,List.take_length]
            refine ⟨D,_,rfl,.of upd_same,?_⟩
            have e2:((x.cps.toList.map isLet).all id) = isNameD (.str x):=by
              simp only [isNameD,decide_eq_true h1,decide_eq_true h2,Bool.and_self,Bool.true_and,List.all_map]
              rfl
            rw [e2]
            exact k _ (sm.upd_new (sm.free hD))
        · have hd:isNameD (.str x) = false:=by simp [isNameD,h2]
          rw [hd] at k
          refine ite_nn (fun z=>h2 (by omega)) (k H (Same.refl H))
      · have hd:isNameD (.str x) = false:=by simp [isNameD,h1]
        rw [hd] at k
        refine iteDF (fun z=>h1 (by omega)) ?_
        exact ⟨false,rfl,iteT (k H (Same.refl H))⟩
def spIsBookT:Sp:=fun vs H Q _=>∃ v d,vs = [v]∧Thg H d v∧sml d = true∧∀ H',Same H H'→Q (.bl (isBookD d)) H'
theorem ok_isbookT {f:Addr} {fd:FuncData} (F:Fun K "is_book" "is_book" sIsBook f fd) (B:Blt mg) (C:Cst K mg) (KF:KitF K) (cName:Cal P w K mg base 1 "is_name" ["thing"] spIsNameT):FnOk P w K mg base CX0 2 f fd ["thing"] spIsBookT:=by
  obtain ⟨t8,h8⟩:=C.mn
  refine F.ok scIsBook (fun vs H Q E h=>?_) (fun cdv A outer s H vs Q E hr h=>?_)
  · obtain ⟨v,d,rfl,_⟩:=h; rfl
  · obtain ⟨v,d,rfl,hv,hs,k⟩:=h
    refine ⟨_,pss_cons (ps_if (PW.pt (pw_or (pt_not (pt_val (pe_callB call_isinst (by rfl) B.isinstance PyProof.Rows.boot_isinstance (pa_cons (pv 0) (pa_cons (pe_bltn (v:=.ty "tuple") (by rfl) B.tuple PyProof.Rows.boot_tuple rfl) pa_nil)))))
        (pw_or1 (pt_not (pt_chain op_le op_le pe_int (pe_callB call_len_seq (by rfl) B.len PySem.boot_len (pa_cons (pv 0) pa_nil)) (pe_glob (v:=.int 8) (by rfl) h8 ⟨_,rfl⟩))))))
        (pss_one (ps_ret pe_bl)) pss_nil)
      (pss_one (ps_ret (pe_callB (call_all rfl) (by rfl) B.all PyProof.Rows.boot_all (pa_cons (pe_comp (N:=["name"]) (caps:=[]) rfl (compScope_of (by kernel_rfl)) (pi_tup (pv 0))
        (fun cl C s H ex=>pg_name (i:=0) nd2 rfl (Or.inl rfl)) (fun cl C s H ex=>pf_nil)
        (fun cl C s H ex=>pe_cal cName hr rfl (pa_cons (pv 0) pa_nil))) pa_nil)))),?_⟩
    obtain ⟨t,b,hty,hkit,hb⟩:=ty_tup KF hv
    refine ⟨_,rfl,_,_,t,b,rfl,hty,hkit,b,rfl,?_⟩
    cases b with
    | false =>
      have hd:isBookD d = false:=by
        cases d with
        | tuple x=>exact absurd (hb.mpr ⟨x,rfl⟩) (by decide)
        | _=>rfl
      rw [hd] at k
      exact iteT (iteT (k H (Same.refl H)))
    | true =>
      obtain ⟨ds,rfl⟩:=hb.mp rfl
      obtain ⟨a,xs,rfl,ha,hxs⟩:=hv
      have hsx:ds.length≤900∧smls ds = true:=by
        simp only [sml,Bool.and_eq_true,decide_eq_true_eq] at hs
        exact hs
      have hxl:xs.length = ds.length:=hxs.length.symm
      refine iteF ?_
      refine ⟨_,rfl,_,_,rfl,.inr (.of ha),_,_,rfl,rfl,_,rfl,?_⟩
      by_cases h1:1≤ds.length
      · refine iteD (by rw [hxl]; omega) ⟨_,_,rfl,rfl,_,rfl,?_⟩
        by_cases h2:ds.length≤8
        · refine iteNS (by rw [hxl]; omega) ?_
          refine ⟨_,rfl,a,rfl,⟨_,.of ha⟩,?_⟩
          refine comp_known0 (known_tup _ a xs) [] 1 (by omega) (fun i acc H'=>Same H H'∧acc = ((ds.take i).map isNameD).map V.bl) ⟨Same.refl H,rfl⟩ (fun i acc H' _ h=>⟨.of (h.1 _ _ ha),by rw [h.2,List.length_map,List.length_map,List.length_take]; omega⟩) ?_ ?_
          · rintro i y acc H' ys Nx hN hx hy ⟨sm,rfl⟩
            obtain ⟨y',rfl⟩:=ys1 hy
            obtain ⟨e,he,hye⟩:=hxs.get hx
            have hi:i < ds.length:=(List.getElem?_eq_some_iff.mp he).1
            refine ⟨_,rfl,y,e,rfl,Thg.same sm _ _ hye,smls_mem hsx.2 (List.mem_of_getElem? he),fun H5 sm5=>hN _ _ [some y] rfl ⟨sm.trans sm5,?_⟩⟩
            rw [List.take_succ_eq_append_getElem hi,(List.getElem?_eq_some_iff.mp he).2,List.map_append,List.map_append]; rfl
          · rintro acc H' ⟨sm,rfl⟩ D hD
            rw [hxl,List.take_length]
            refine ⟨D,_,rfl,.of upd_same,?_⟩
            have e2:((ds.map isNameD).all id) = isBookD (.tuple ds):=by
              simp only [isBookD,decide_eq_true h1,decide_eq_true h2,Bool.and_self,Bool.true_and,List.all_map]
              rfl
            rw [e2]
            exact k _ (sm.upd_new (sm.free hD))
        · have hd:isBookD (.tuple ds) = false:=by simp [isBookD,h2]
          rw [hd] at k
          refine ite_nn (fun z=>h2 (by rw [hxl] at z; omega)) (k H (Same.refl H))
      · have hd:isBookD (.tuple ds) = false:=by simp [isBookD,h1]
        rw [hd] at k
        refine iteDF (fun z=>h1 (by rw [hxl] at z; omega)) ?_
        exact ⟨false,rfl,iteT (k H (Same.refl H))⟩
def isWholeD (a b:Int):PyData→Bool
  | .int i=>decide (a≤i) && decide (i≤b)
  | _=>false
theorem isOrder_whole (d:PyData):isOrderD d = isWholeD 1 3 d:=by
  cases d <;> rfl
def spIsWholeT:Sp:=fun vs H Q _=>∃ v d a b,vs = [v,.int a,.int b]∧Thg H d v∧Q (.bl (isWholeD a b d)) H
theorem ok_iswholeT {f:Addr} {fd:FuncData} (F:Fun K "is_whole" "is_whole" sIsWhole f fd) (B:Blt mg) (C:Cst K mg) (KF:KitF K):FnOk P w K mg base CX0 1 f fd ["thing", "least", "most"] spIsWholeT:=by
  refine F.ok scIsWhole (fun vs H Q E h=>?_) (fun cdv A outer s H vs Q E hr h=>?_)
  · obtain ⟨v,d,a,b,rfl,_⟩:=h; rfl
  · obtain ⟨v,d,a,b,rfl,hv,k⟩:=h
    refine ⟨_,pss_cons (ps_if (PW.pt (pw_or (pt_not (pt_val (pe_callB call_isinst (by rfl) B.isinstance PyProof.Rows.boot_isinstance (pa_cons (pv 0) (pa_cons (pe_bltn (v:=.ty "int") (by rfl) B.int PyProof.Rows.boot_int rfl) pa_nil)))))
        (pw_or1 (pt_val (pe_callB call_isinst (by rfl) B.isinstance PyProof.Rows.boot_isinstance (pa_cons (pv 0) (pa_cons (pe_bltn (v:=.ty "bool") (by rfl) B.bool PyProof.Rows.boot_bool rfl) pa_nil)))))))
        (pss_one (ps_ret pe_bl)) pss_nil)
      (pss_one (ps_ret (pe_chain op_le op_le (pv 1) (pv 0) (pv 2)))),?_⟩
    cases d with
    | none=>cases (show v = .non from hv); exact ⟨_,rfl,_,_,_,false,rfl,.non,KF.ni,_,rfl,iteT (iteT k)⟩
    | str x=>cases (show v = .str x from hv); exact ⟨_,rfl,_,_,_,false,rfl,.str _,KF.si,_,rfl,iteT (iteT k)⟩
    | list ds=>obtain ⟨a,xs,rfl,h1,_⟩:=hv; exact ⟨_,rfl,_,_,_,false,rfl,.lst h1,KF.li,_,rfl,iteT (iteT k)⟩
    | tuple ds=>obtain ⟨a,xs,rfl,h1,_⟩:=hv; exact ⟨_,rfl,_,_,_,false,rfl,.tup h1,KF.ti,_,rfl,iteT (iteT k)⟩
    | dict _=>exact hv.elim
    | bool b =>
      cases (show v = .bl b from hv)
      exact ⟨_,rfl,_,_,_,true,rfl,.bl _,KF.bi,_,rfl,iteF ⟨_,rfl,_,_,_,true,rfl,.bl _,(by rfl),_,rfl,iteT k⟩⟩
    | int i =>
      cases (show v = .int i from hv)
      refine ⟨_,rfl,_,_,_,true,rfl,.int _,(by rfl),_,rfl,?_⟩
      refine iteF ?_
      refine ⟨_,rfl,_,_,_,false,rfl,.int _,C.ib,_,rfl,?_⟩
      refine iteF ?_
      refine ⟨_,rfl,_,rfl,_,_,rfl,rfl,_,rfl,?_⟩
      by_cases h1:a≤i
      · refine iteD h1 ⟨_,rfl,_,_,rfl,rfl,?_⟩
        have e:isWholeD a b (.int i) = decide (i≤b):=by simp [isWholeD,h1]
        rw [e] at k
        exact k
      · have e:isWholeD a b (.int i) = false:=by simp [isWholeD,h1]
        rw [e] at k
        exact iteDF h1 k
def spIsOrderT:Sp:=fun vs H Q _=>∃ v d,vs = [v]∧Thg H d v∧Q (.bl (isOrderD d)) H
theorem ok_isorderT {f:Addr} {fd:FuncData} (F:Fun K "is_order" "is_order" sIsOrder f fd) (C:Cst K mg) (cW:Cal P w K mg base 1 "is_whole" ["thing", "least", "most"] spIsWholeT):FnOk P w K mg base CX0 2 f fd ["thing"] spIsOrderT:=by
  obtain ⟨t3,h3⟩:=C.mo
  refine F.ok scIsOrder (fun vs H Q E h=>?_) (fun cdv A outer s H vs Q E hr h=>?_)
  · obtain ⟨v,d,rfl,_⟩:=h; rfl
  · obtain ⟨v,d,rfl,hv,k⟩:=h
    refine ⟨_,pss_one (ps_ret (pe_cal cW hr rfl (pa_cons (pv 0) (pa_cons pe_int (pa_cons (pe_glob (v:=.int 3) (by rfl) h3 ⟨_,rfl⟩) pa_nil))))),?_⟩
    rw [isOrder_whole] at k
    exact ⟨_,rfl,v,d,1,3,rfl,hv,k⟩
def spRef (C:Addr) (ok:PyData→Bool):Sp:=fun vs H Q E=>∃ v d,vs = [v]∧Thg H d v∧sml d = true∧(ok d = true→∀ H',Same H H'→Q .non H')∧(ok d = false→∀ H',Same H H'→E (.ref C) none H')
theorem ok_needbookR {f:Addr} {fd:FuncData} {C:Addr} (F:Fun K "need_book" "need_book" sNeedBook f fd) (O:XCls K mg "NoBook" C) (c1:Cal P w K mg base 2 "is_book" ["thing"] spIsBookT):FnOk P w K mg base (CXr P w) 3 f fd ["thing"] (spRef C isBookD):=by
  refine F.okR scNeedBook (fun vs H Q E h=>?_) (fun cdv A outer s H vs Q E hr h ok=>?_)
  · obtain ⟨v,d,rfl,_⟩:=h; rfl
  · obtain ⟨v,d,rfl,hv,hs,k1,k2⟩:=h
    refine ⟨_,pss_one (ps_if (pt_not (pt_val (pe_cal c1 hr rfl (pa_cons (pv 0) pa_nil)))) (pss_one (ps_raise ok rfl O (by rfl) (pa_cons pe_str pa_nil))) pss_nil),?_⟩
    refine ⟨_,rfl,v,d,rfl,hv,hs,fun H' sm=>⟨_,rfl,?_⟩⟩
    cases e:isBookD d with
    | true=>exact iteF (k1 e H' sm)
    | false=>exact iteT ⟨by show 1≤sizeLine; decide,k2 e H' sm⟩
theorem ok_needorderR {f:Addr} {fd:FuncData} {C:Addr} (F:Fun K "need_order" "need_order" sNeedOrder f fd) (O:XCls K mg "NoOrder" C) (c1:Cal P w K mg base 2 "is_order" ["thing"] spIsOrderT):FnOk P w K mg base (CXr P w) 3 f fd ["thing"] (spRef C isOrderD):=by
  refine F.okR scNeedOrder (fun vs H Q E h=>?_) (fun cdv A outer s H vs Q E hr h ok=>?_)
  · obtain ⟨v,d,rfl,_⟩:=h; rfl
  · obtain ⟨v,d,rfl,hv,hs,k1,k2⟩:=h
    refine ⟨_,pss_one (ps_if (pt_not (pt_val (pe_cal c1 hr rfl (pa_cons (pv 0) pa_nil)))) (pss_one (ps_raise ok rfl O (by rfl) (pa_cons pe_str pa_nil))) pss_nil),?_⟩
    refine ⟨_,rfl,v,d,rfl,hv,_,rfl,?_⟩
    cases e:isOrderD d with
    | true=>exact iteF (k1 e H (Same.refl H))
    | false=>exact iteT ⟨by show 1≤sizeLine; decide,k2 e H (Same.refl H)⟩
end
end Kn
end
section
set_option Elab.async false
set_option linter.all false
set_option maxRecDepth 100000
set_option maxHeartbeats 1000000
namespace L2
open PySem PySem.Spec PyProof.Rows
section
variable {prog:Program} {w:World} {A:Around} {E:Value→Shared→Prop} {s:Shared}
end
section
variable {prog:Program} {w:World} {A:Around} {E:Value→Shared→Prop} {s:Shared} {z TI TO i1 i2:Addr} {fp1 fp2:List Addr} {n1 n2:Nat} {P1 P2:Nat→Value→Prop} {T1 T2:Nat→Heap→Prop} {k:Nat} {a b:Value}
end
section
variable {prog:Program} {w:World} {A:Around} {E:Value→Shared→Prop} {s:Shared} {z TI TO i1 i2:Addr} {fp1 fp2:List Addr} {n1 n2:Nat} {P1 P2:Nat→Value→Prop} {T1 T2:Nat→Heap→Prop} {k:Nat} {a b:Value}
end
section
variable {prog:Program} {w:World} {A:Around} {E:Value→Shared→Prop} {s:Shared}
end
section
variable {X:Cx} {elts:List Expr} {k:Nat} {tpos:Pos}
end
end L2
end
section
set_option Elab.async false
set_option linter.all false
set_option maxRecDepth 100000
set_option maxHeartbeats 1000000
namespace L2
open PySem PySem.Spec PyProof.Rows
open AutoSeq1 (wpAny_loadPart')
section
variable {prog:Program} {w:World} {A:Around} {E:Value→Shared→Prop} {s:Shared}
end
section
variable {X:Cx} {elts:List Expr} {k:Nat} {tpos:Pos}
end
section
variable {X:Cx}
end
section
variable {X:Cx}
end
end L2
end
section
set_option Elab.async false
set_option linter.all false
set_option maxRecDepth 100000
set_option maxHeartbeats 1000000
namespace L2
open PySem PySem.Spec PyProof.Rows
section
variable {prog:Program} {w:World} {A:Around} {E:Value→Shared→Prop} {s:Shared}
theorem nextT_in {it d:Addr} {i n ep:Nat} {ok ov:Value} {o:Obj} {es:Array DictEntry} {e:DictEntry} {Q:PySem.Fin→Shared→Prop}
   (st:IsItemIter s.heap it d i n ep ok ov) (ho:s.heap.get? d = some o) (hx:o.ExactDict) (hd:o.data = .dict es ep) (hn:n = es.size) (he:es[i]? = some e)
   (hq:∀ h':Heap,IsItemIterOut h' it d (i + 1) n ep e.key e.val s.heap.objs.size→h'.get? s.heap.objs.size = some { cls:=.type "tuple",data:=.seq #[e.key,e.val] }→h'.objs.size = s.heap.objs.size + 1→(∀ b o,b≠it→s.heap.get? b = some o→h'.get? b = some o)→Q (.done (.ret (.ref s.heap.objs.size))) { s with heap:=h' }) :
   wpAny (model prog w) A (Builtin.«dict_itemiterator.__next__» ⟨[.ref it],[]⟩) Q E s:=by
  have ty:s.TypeIs (.ref it) "dict_itemiterator" := ⟨_,st,rfl⟩
  obtain ⟨ocls,odict,odata,oslots⟩:=o
  obtain ⟨c1,c2,c3⟩:=hx
  simp only at c1 c2 c3 hd
  subst c1 c2 hd hn
  unfold IsItemIter at st
  unfold Builtin.«dict_itemiterator.__next__»
  wp_walk
  have e1:(if (i:Int) < 0 then none else es[(i:Int).toNat]?) = some e:=by
    rw [if_neg (by omega)]; simpa using he
  rw [e1]
  clear e1
  dsimp only
  refine wpAny_bind (thn (Q:=fun b s'=>b = 2∧s' = s) ?_ ?_)
  · wp_walk
    all_goals exact ⟨rfl,rfl⟩
  rintro b s' ⟨rfl,rfl⟩
  refine wpAny_bind (wpAny_isOneOf_itemiter ty ?_)
  refine wpAny_bind (wpAny_setField_rec st (by simp) fun h1 g1 k1=>?_)
  replace g1:h1.get? it = some { cls:=.type "dict_itemiterator",data:=.fields #[.none,.bool false,.ref d,.int ((i + 1:Nat):Int) 0,.int es.size 0,.int ep 0,ok,ov] }:=g1
  have lit:it < s'.heap.objs.size:=Heap.lt_size st
  have ty1:Shared.TypeIs { s' with heap:=h1 } (.ref it) "dict_itemiterator" := ⟨_,g1,rfl⟩
  refine wpAny_bind (wpAny_holding ?_)
  show wpAny _ _ (Builtin.Dict_items.isOneOf (.ref it) _ >>= _) _ _ _
  refine wpAny_bind (wpAny_isOneOf_itemiter ty1 ?_)
  show wpAny _ _ (Builtin.Dict_items.isOneOf (.ref it) _ >>= _) _ _ _
  refine wpAny_bind (wpAny_isOneOf_itemiter ty1 ?_)
  show wpAny _ _ (Builtin.Dict_items.pairFromOwner (.ref it) 6 e.key e.val) _ _ _
  unfold Builtin.Dict_items.pairFromOwner
  refine wpAny_bind (wpAny_newTuple ?_)
  have hsz:h1.objs.size = s'.heap.objs.size:=k1.1
  have g2:(h1.push { cls:=.type "tuple",data:=.seq [e.key,e.val].toArray }).get? it = some { cls:=.type "dict_itemiterator",data:=.fields #[.none,.bool false,.ref d,.int ((i + 1:Nat):Int) 0,.int es.size 0,.int ep 0,ok,ov] }:=Heap.get?_push_of_some _ g1
  unfold Builtin.Dict_items.ownedTupleIsFree
  refine wpAny_bind (wpAny_bind (wpAny_field (i:=0) g2 rfl (x:=.none) rfl (wpAny_pure ?_)))
  simp only [if_true]
  refine wpAny_bind (wpAny_field (i:=6) g2 rfl (x:=ok) rfl ?_)
  refine wpAny_bind (wpAny_field (i:=7) g2 rfl (x:=ov) rfl ?_)
  refine wpAny_bind (wpAny_setField_rec g2 (by simp) fun h3 g3 k3=>?_)
  refine wpAny_bind (wpAny_setField_rec g3 (by simp) fun h4 g4 k4=>?_)
  refine wpAny_bind (wpAny_setField_rec g4 (by simp) fun h5 g5 k5=>?_)
  refine wpAny_bind (wpAny_setField_rec g5 (by simp) fun h6 g6 k6=>?_)
  refine wpAny_bind (wpAny_letGo ?_)
  refine wpAny_pure (wpAny_pure ?_)
  have nit:h1.objs.size≠it:=by rw [hsz]; exact Nat.ne_of_gt lit
  have tup:h6.get? h1.objs.size = some { cls:=.type "tuple",data:=.seq #[e.key,e.val] } :=
    (k6.2 _ nit).trans ((k5.2 _ nit).trans ((k4.2 _ nit).trans ((k3.2 _ nit).trans (Heap.get?_push_size _ rfl))))
  have size:h6.objs.size = h1.objs.size + 1:=by
    rw [k6.1,k5.1,k4.1,k3.1,Heap.size_push]
  have keep:∀ b o,b≠it→s'.heap.get? b = some o→h6.get? b = some o:=fun b o hb q =>
    (k6.2 _ hb).trans ((k5.2 _ hb).trans ((k4.2 _ hb).trans ((k3.2 _ hb).trans (Heap.get?_push_of_some _ ((k1.2 _ hb).trans q)))))
  show Q (.done (.ret (.ref h1.objs.size))) _
  rw [hsz]
  refine hq h6 ?_ (by rw [← hsz]; exact tup) (by rw [size,hsz]) keep
  rw [← hsz]
  exact g6
theorem nextT {it d:Addr} {i n ep:Nat} {ok ov:Value} {o:Obj} {es:Array DictEntry} {e:DictEntry} {Q:Option Value→Shared→Prop}
   (st:IsItemIter s.heap it d i n ep ok ov) (ho:s.heap.get? d = some o) (hx:o.ExactDict) (hd:o.data = .dict es ep) (hn:n = es.size) (he:es[i]? = some e)
   (hq:∀ h':Heap,IsItemIterOut h' it d (i + 1) n ep e.key e.val s.heap.objs.size→h'.get? s.heap.objs.size = some { cls:=.type "tuple",data:=.seq #[e.key,e.val] }→h'.objs.size = s.heap.objs.size + 1→(∀ b o,b≠it→s.heap.get? b = some o→h'.get? b = some o)→Q (some (.ref s.heap.objs.size)) { s with heap:=h' }) :
   wpAny (model prog w) A (pyNext (.ref it)) Q E s:=by
  have ty:s.TypeIs (.ref it) "dict_itemiterator" := ⟨_,st,rfl⟩
  unfold pyNext
  exact wpAny_bind (wpAny_attempt (wpAny_callSpecial?_slot (name:=Str.ofString "__next__") ty F.slot_dict_itemiterator_next (wpAny_call_entry F.slot_dict_itemiterator_next ty F.entry_dict_itemiterator_next (nextT_in st ho hx hd hn he fun h' a1 a2 a3 a4=>⟨_,rfl,wpAny_pure (hq h' a1 a2 a3 a4)⟩) (F.args_dict_itemiterator_next_1 _))))
theorem nextT_out {it d:Addr} {i n ep:Nat} {ok ov:Value} {o:Obj} {es:Array DictEntry} {Q:PySem.Fin→Shared→Prop} (hh:A.handled = none)
   (st:IsItemIter s.heap it d i n ep ok ov) (ho:s.heap.get? d = some o) (hx:o.ExactDict) (hd:o.data = .dict es ep) (hn:n = es.size) (he:es[i]? = none)
   (hE:∀ h' e,Heap.ExtBut it s.heap h'→(∃ o,h'.get? e = some o∧o.cls = .type "StopIteration")→E (.ref e) { s with heap:=h' }) :
   wpAny (model prog w) A (Builtin.«dict_itemiterator.__next__» ⟨[.ref it],[]⟩) Q E s:=by
  have ty:s.TypeIs (.ref it) "dict_itemiterator" := ⟨_,st,rfl⟩
  obtain ⟨ocls,odict,odata,oslots⟩:=o
  obtain ⟨c1,c2,c3⟩:=hx
  simp only at c1 c2 c3 hd
  subst c1 c2 hd hn
  unfold IsItemIter at st
  unfold Builtin.«dict_itemiterator.__next__»
  wp_walk
  have e1:(if (i:Int) < 0 then none else es[(i:Int).toNat]?) = none:=by
    rw [if_neg (by omega)]; simpa using he
  rw [e1]
  clear e1
  dsimp only
  refine wpAny_bind (thn (Q:=fun b s'=>b = 2∧s' = s) ?_ ?_)
  · wp_walk
    all_goals exact ⟨rfl,rfl⟩
  rintro b s' ⟨rfl,rfl⟩
  refine wpAny_bind (wpAny_setField_rec st (by simp) fun h1 g1 k1=>?_)
  refine wpAny_bind ?_
  unfold newExc
  wp_walk
  refine wpAny_raiseNew_none hh (hE _ _ (fun b o hb q=>Heap.get?_push_of_some _ (Heap.get?_push_of_some _ ((k1.2 _ hb).trans q))) ⟨_,Heap.get?_push_size _ rfl,rfl⟩)
theorem nextT_end {it d:Addr} {i n ep:Nat} {ok ov:Value} {o:Obj} {es:Array DictEntry} {Q:Option Value→Shared→Prop} (hh:A.handled = none)
   (st:IsItemIter s.heap it d i n ep ok ov) (ho:s.heap.get? d = some o) (hx:o.ExactDict) (hd:o.data = .dict es ep) (hn:n = es.size) (he:es[i]? = none)
   (hq:∀ h',Heap.ExtBut it s.heap h'→Q none { s with heap:=h' }):wpAny (model prog w) A (pyNext (.ref it)) Q E s:=by
  have ty:s.TypeIs (.ref it) "dict_itemiterator" := ⟨_,st,rfl⟩
  unfold pyNext
  refine wpAny_bind (wpAny_attempt (wpAny_callSpecial?_slot (name:=Str.ofString "__next__") ty F.slot_dict_itemiterator_next (wpAny_call_entry F.slot_dict_itemiterator_next ty F.entry_dict_itemiterator_next (nextT_out (by simp [hh]) st ho hx hd hn he fun h' e a1 a2=>?_) (F.args_dict_itemiterator_next_1 _))))
  obtain ⟨oe,hoe,hc⟩:=a2
  refine wpAny_bind (wpAny_isInstance (T := "StopIteration") (b:=true) ⟨oe,hoe,hc⟩ isSubtype_stop ?_)
  exact wpAny_pure (hq h' a1)
theorem call_itemsT {d:Addr} {o:Obj} {es:Array DictEntry} {ep:Nat} {Q:PySem.Fin→Shared→Prop} (hm:(d == sysModules) = false) (ho:s.heap.get? d = some o) (hx:o.ExactDict) (hd:o.data = .dict es ep)
    (hq:Q (.done (.ret (.ref s.heap.objs.size))) { s with heap:=s.heap.push { cls:=.type "dict_items",data:=.fields #[.ref d] } }) :
    wpAny (model prog w) A (Builtin.«dict.items» ⟨[.ref d],[]⟩) Q E s:=by
  obtain ⟨ocls,odict,odata,oslots⟩:=o
  obtain ⟨c1,c2,c3⟩:=hx
  simp only at c1 c2 c3 hd
  subst c1 c2 hd
  unfold Builtin.«dict.items»
  wp_walk
  exact hq
theorem iter_itemsT {p d:Addr} {o:Obj} {es:Array DictEntry} {ep:Nat} {Q:PySem.Fin→Shared→Prop} (hp:s.heap.get? p = some { cls:=.type "dict_items",data:=.fields #[.ref d] }) (ho:s.heap.get? d = some o) (hx:o.ExactDict) (hd:o.data = .dict es ep)
    (hq:Q (.done (.ret (.ref s.heap.objs.size))) { s with heap:=s.heap.push { cls:=.type "dict_itemiterator",data:=.fields #[.none,.bool false,.ref d,.int 0 0,.int es.size 0,.int ep 0,.none,.none] } }) :
    wpAny (model prog w) A (Builtin.«dict_items.__iter__» ⟨[.ref p],[]⟩) Q E s:=by
  obtain ⟨ocls,odict,odata,oslots⟩:=o
  obtain ⟨c1,c2,c3⟩:=hx
  simp only at c1 c2 c3 hd
  subst c1 c2 hd
  unfold Builtin.«dict_items.__iter__» Builtin.Dict_items.dictOf Builtin.Dict_items.newIterator
  wp_walk
  exact hq
end
theorem dT_obj {P:Program} {w:World} {H:Hp} {h:Heap} {a:Addr} {o:Obj} {kvs:List (List TKey × V)} (ok:ObjOk P w H h a (.dT kvs)) (ho:h.get? a = some o) :
    (a == sysModules) = false∧o.ExactDict∧∃ es ep,o.data = .dict es ep∧es.size = kvs.length∧∀ (i:Nat) (q:List TKey × V),kvs[i]? = some q→∃ e b,es[i]? = some e∧e.key = .ref b∧H b = some (.tup (q.1.map tkV))∧RelV q.2 e.val:=by
  obtain ⟨z,y,xs,r,o',es,ep,h1,h2,h3,h4,h5⟩:=ok
  rw [ho] at h1
  cases h1
  have hl:es.size = kvs.length:=by
    have e1:=congrArg List.length h4
    rw [List.length_map,← Paired.length r] at e1
    simpa using e1
  refine ⟨y,h2,es,ep,h3,hl,fun i q hq=>?_⟩
  obtain ⟨x,hx,e1,e2,e3⟩:=paired_get r hq
  have e4:es.toList[i]? = some (entryOfKey (tupleKind (tkKind P w)) x):=by rw [h4,List.getElem?_map,hx]; rfl
  exact ⟨_,x.2.1,by simpa using e4,rfl,e2,e3⟩
section
variable {X:Cx} {pins:List (Addr × Obj)} {σ:St} {H:Hp} {s:Shared}
def rItemsT:V→List V→Hp→VK→Prop:=fun x vs H Q=>∃ d kvs,x = .ref d∧vs = []∧H d = some (.dT kvs)∧∀ p,H p = none→Q (.ref p) (upd H p (VW p d))
theorem mt_itemsT:MtM X "dict.items" rItemsT:=by
  intro pins s σ H x vs v us Q I rx rv h
  obtain ⟨d,kvs,rfl,rfl,hd,q⟩:=h
  cases rx
  have hus:=rv.zero
  subst hus
  have ok:ObjOk X.prog X.w H s.heap d (.dT kvs):=I.hok d _ hd
  obtain ⟨_,_,_,_,o,_,_,ho,_⟩:=id ok
  obtain ⟨hm,hx,es,ep,hdat,_⟩:=dT_obj ok ho
  have ty:s.TypeIs (.ref d) "dict" := ⟨o,ho,hx.1⟩
  refine wpAny_call_entry PySem.F.slot_dict_items ty PySem.F.entry_dict_items (call_itemsT hm ho hx hdat ⟨_,rfl,?_⟩) (PySem.F.args_dict_items_1 _)
  refine ⟨.ref s.heap.objs.size,_,I.laid (t':=s.toks) (o:=VW s.heap.objs.size d) (fun b o e=>Heap.get?_push_of_some _ e) (Nat.le_refl _) ?_,rfl,q _ (I.hok.fresh (Nat.le_refl _))⟩
  exact ⟨Heap.get?_push_size _ rfl,⟨_,Heap.get?_push_size _ rfl⟩,fun h1 h2 e k=>k _ e⟩
theorem HOk.freezeT {P:Program} {w:World} {H:Hp} {h:Heap} {a:Addr} {o:Obj} {kvs:List (List TKey × V)} (x:HOk P w H h) (e:H a = some (.dT kvs)) (ho:h.get? a = some o):HOk P w (upd H a (.frz o (.dT kvs))) h:=fun b u eb=>by
  by_cases hb:b = a
  · subst hb; rw [upd_same] at eb; cases eb
    refine ⟨ho,(x b _ e).stay (fun c v _ q=>q) (fun c q=>?_) fun c xs q=>?_⟩
    · rw [upd_ne (by rintro rfl; rw [e] at q; cases q)]; exact q
    · rw [upd_ne (by rintro rfl; rw [e] at q; cases q)]; exact q
  · rw [upd_ne hb] at eb
    refine (x b u eb).stay (fun c v _ q=>q) (fun c q=>?_) fun c xs q=>?_
    · rw [upd_ne (by rintro rfl; rw [e] at q; cases q)]; exact q
    · rw [upd_ne (by rintro rfl; rw [e] at q; cases q)]; exact q
theorem Inv.freezeT {a:Addr} {o:Obj} {kvs:List (List TKey × V)} (I:Inv X pins σ H s) (e:H a = some (.dT kvs)) (ho:s.heap.get? a = some o):Inv X pins σ (upd H a (.frz o (.dT kvs))) s:=by
  have ne:∀ {b:Addr} {u:Option HO},H b = u→u≠some (.dT kvs)→b≠a:=fun {b u} q n z=>n (by rw [← q,z,e])
  refine ⟨I.ok,I.os,I.bare,⟨I.base.keep,I.base.slot,fun b ob q n hx=>?_,I.base.there,fun b xs q=>?_,fun b ob u q=>?_,fun b ps q=>?_⟩,I.loc,I.cell,?_,fun x c q=>?_,fun p q=>?_,I.hok.freezeT e ho,I.len⟩
  · have:=I.base.free b ob q n hx
    rw [upd_ne (ne this (by simp))]; exact this
  · have:=I.base.tups b xs q
    rw [upd_ne (ne this (by simp))]; exact this
  · have:=I.base.frzs b ob u q
    rw [upd_ne (ne this (by simp))]; exact this
  · obtain ⟨m,z⟩:=I.base.tbls b ps q
    exact ⟨m,by rw [upd_ne (ne z (by simp))]; exact z⟩
  · have:=I.free
    rw [upd_ne (ne this (by simp))]; exact this
  · have:=I.freeC x c q
    rw [upd_ne (ne this (by simp))]; exact this
  · obtain ⟨a1,a2,a3⟩:=I.pin p q
    exact ⟨a1,by rw [upd_ne (ne a2 (by simp))]; exact a2,a3⟩
theorem HOk.thawT {P:Program} {w:World} {H:Hp} {h:Heap} {a:Addr} {o:Obj} {kvs:List (List TKey × V)} (x:HOk P w H h) (e:H a = some (.frz o (.dT kvs))):HOk P w (upd H a (.dT kvs)) h:=fun b u eb=>by
  by_cases hb:b = a
  · subst hb; rw [upd_same] at eb; cases eb
    refine (show h.get? b = some o∧ObjOk P w H h b (.dT kvs) from x b _ e).2.stay (fun c v _ q=>q) (fun c q=>?_) fun c xs q=>?_
    · rw [upd_ne (by rintro rfl; rw [e] at q; cases q)]; exact q
    · rw [upd_ne (by rintro rfl; rw [e] at q; cases q)]; exact q
  · rw [upd_ne hb] at eb
    refine (x b u eb).stay (fun c v _ q=>q) (fun c q=>?_) fun c xs q=>?_
    · rw [upd_ne (by rintro rfl; rw [e] at q; cases q)]; exact q
    · rw [upd_ne (by rintro rfl; rw [e] at q; cases q)]; exact q
theorem Inv.thawT {a:Addr} {o:Obj} {kvs:List (List TKey × V)} {pins':List (Addr × Obj)} {σ':St} {H':Hp} {s':Shared} (I:Inv X pins σ H s) (I0:Inv X pins' σ' H' s') (h0:H' a = some (.dT kvs)) (e:H a = some (.frz o (.dT kvs))):Inv X pins σ (upd H a (.dT kvs)) s:=by
  have ne:∀ {b:Addr} {u:Option HO},H b = u→u≠some (.frz o (.dT kvs))→b≠a:=fun {b u} q n z=>n (by rw [← q,z,e])
  refine ⟨I.ok,I.os,I.bare,⟨I.base.keep,I.base.slot,fun b ob q n hx=>?_,I.base.there,fun b xs q=>?_,fun b ob u q=>?_,fun b ps q=>?_⟩,I.loc,I.cell,?_,fun x c q=>?_,fun p q=>?_,I.hok.thawT e,I.len⟩
  · have:=I.base.free b ob q n hx
    rw [upd_ne (ne this (by simp))]; exact this
  · have:=I.base.tups b xs q
    rw [upd_ne (ne this (by simp))]; exact this
  · have:=I.base.frzs b ob u q
    rw [upd_ne (by rintro rfl; have:=I0.base.frzs _ ob u q; rw [h0] at this; cases this)]; exact this
  · obtain ⟨m,z⟩:=I.base.tbls b ps q
    exact ⟨m,by rw [upd_ne (ne z (by simp))]; exact z⟩
  · have:=I.free
    rw [upd_ne (ne this (by simp))]; exact this
  · have:=I.freeC x c q
    rw [upd_ne (ne this (by simp))]; exact this
  · obtain ⟨a1,a2,a3⟩:=I.pin p q
    exact ⟨a1,by rw [upd_ne (ne a2 (by simp))]; exact a2,a3⟩
end
def ItT (a:Addr) (o:Obj) (kvs:List (List TKey × V)):It where
  go:=fun i H=>H a = some (.frz o (.dT kvs))∧i < kvs.length
  yld:=fun i H x H'=>∃ T b q,x = .ref T∧H T = none∧H b = some (.tup (q.1.map tkV))∧H' = upd H T (.tup [.ref b,q.2])∧kvs[i]? = some q
  stop:=fun i H=>H a = some (.frz o (.dT kvs))∧kvs.length≤i
theorem turn_itemsT {P:Program} {w:World} {K:PySem.W.Frag} {elts:List Expr} {k:Nat} {pos:Pos} (a it:Addr) (o:Obj) (kvs:List (List TKey × V)) (n ep:Nat) (hn:n = kvs.length) (hep:∃ es,o.data = .dict es ep) :
    Turn P w K (.Tuple elts k pos) (ItT a o kvs) [it] it (fun i h=>∃ ok ov,IsItemIter h it a i n ep ok ov) where
  mem:=by simp
  obj:=fun i h st b hb=>by
    have e:b = it:=by simpa using hb
    subst e
    obtain ⟨ok,ov,st⟩:=st
    exact ⟨_,st,fun v z=>by
      have z':Data.fields _ = Data.cell v:=z
      cases z'⟩
  keep:=fun i h h' st kk=>let ⟨ok,ov,st⟩:=st; ⟨ok,ov,kk it (by simp) _ st⟩
  item:=by
    intro X hP hw hK hc i pins s σ H E I hf st hg
    subst hP hw hK
    obtain ⟨hfz,hi⟩:=hg
    obtain ⟨ok,ov,st⟩:=st
    obtain ⟨hget,hob⟩:=(show s.heap.get? a = some o∧ObjOk X.prog X.w H s.heap a (.dT kvs) from I.hok a _ hfz)
    obtain ⟨hm,hx,es,ep',hd,hlen,hat⟩:=dT_obj hob hget
    have epe:ep' = ep:=by
      obtain ⟨es',h3⟩:=hep
      rw [hd] at h3; injection h3
    subst epe
    have hi':i < kvs.length:=hi
    obtain ⟨e,b,h1,h2,h3,h4⟩:=hat i _ (List.getElem?_eq_getElem hi')
    refine nextT st hget hx hd (by rw [hn,hlen]) h1 fun h' hout hT hsz hk=>?_
    refine ⟨_,rfl,wpAny_letOwnedTupleGo_items hout fun h2' he2 hs2=>?_⟩
    have hTn:s.heap.get? s.heap.objs.size = none:=by
      cases g:s.heap.get? s.heap.objs.size with
      | none=>rfl
      | some o=>exact absurd (Heap.lt_size g) (Nat.lt_irrefl _)
    have hel:it < s.heap.objs.size:=Heap.lt_size st
    have hT2:h2'.get? s.heap.objs.size = some { cls:=.type "tuple",data:=.seq #[e.key,e.val] }:=(hs2.2 _ (Nat.ne_of_gt hel)).trans hT
    refine ⟨.ref s.heap.objs.size,upd H s.heap.objs.size (.tup [.ref b,kvs[i].2]),I.turnedT (fp:=[it]) (h':=h2') (t':=s.toks) (fun b ob hb q=>?_) hf hTn ⟨by show 2≤sizeLine; decide,[e.key,e.val],.cons (by rw [h2]; rfl) (.cons h4 .nil),⟨_,hT2,rfl,_,rfl⟩⟩,rfl,
      ⟨_,b,_,rfl,I.hok.free hTn,h3,rfl,List.getElem?_eq_getElem hi'⟩,⟨_,_,he2⟩,fun b hb=>?_⟩
    · have hbe:b≠it:=fun z=>hb (by simp [z])
      exact (hs2.2 b hbe).trans (hk b ob hbe q)
    · rw [upd_ne]
      · exact (hf b hb).1
      · rintro rfl
        have z':s.heap.objs.size = it:=by simpa using hb
        exact absurd hel (by rw [z']; exact Nat.lt_irrefl _)
  done:=by
    intro X hP hw hK hc i pins s σ H E I hf st hg
    subst hP hw hK
    obtain ⟨hfz,hi⟩:=hg
    obtain ⟨ok,ov,st⟩:=st
    obtain ⟨hget,hob⟩:=(show s.heap.get? a = some o∧ObjOk X.prog X.w H s.heap a (.dT kvs) from I.hok a _ hfz)
    obtain ⟨hm,hx,es,ep',hd,hlen,hat⟩:=dT_obj hob hget
    have epe:ep' = ep:=by
      obtain ⟨es',h3⟩:=hep
      rw [hd] at h3; injection h3
    subst epe
    obtain ⟨f0,f1,f2,f3,f4,f5⟩:=hf it (by simp)
    have hi':kvs.length≤i:=hi
    refine nextT_end (I.ok.hd hc) st hget hx hd (by rw [hn,hlen]) (by rw [Array.getElem?_eq_none]; omega) fun h' he=>⟨rfl,?_⟩
    exact I.turned (t':=s.toks) (fun b o hb e=>he b o hb e) f0 f1 f3 f4 f5
  self:=fun A i s Q E st hq=>by
    obtain ⟨ok,ov,st⟩:=st
    have hT:s.TypeIs (.ref it) "dict_itemiterator" := ⟨_,st,rfl⟩
    refine wpAny_pyIter_slot hT F.slot_dict_itemiterator_iter (wpAny_call_entry F.slot_dict_itemiterator_iter hT entry_itemiter_iter ?_ (F.args_dict_itemiterator_iter_1 _))
    show wpAny _ _ (ret (.ref it)) _ _ s
    exact wpAny_pure ⟨_,rfl, "dict_itemiterator",_,hT,F.slot_dict_itemiterator_next.lookup,hq⟩
section
variable {X:Cx} {elts:List Expr} {kk:Nat} {tpos:Pos} {tg:Expr}
def iItemsT (tl:TE):TI:=fun σ H R=>tl σ H fun x H1=>∃ p a kvs,x = .ref p∧H1 p = some (VW p a)∧H1 a = some (.dT kvs)∧∀ o,R (ItT a o kvs) (upd H1 a (.frz o (.dT kvs)))
theorem pi_itemsT {l:Expr} {tl:TE} (hl:PE X l tl):PI X (.Tuple elts kk tpos) l (iItemsT tl):=by
  intro pins s σ H R I h
  refine thn (hl pins s σ H _ I h) fun v s1 ⟨x,H1,I1,r1,q1⟩=>?_
  obtain ⟨p,a,kvs,e,hp,hq,q⟩:=q1
  subst e
  cases r1
  have ok:ObjOk X.prog X.w H1 s1.heap a (.dT kvs):=I1.hok a _ hq
  obtain ⟨_,_,_,_,o,_,_,ho,_⟩:=id ok
  obtain ⟨hm,hx,es,ep,hd,hlen,hat⟩:=dT_obj ok ho
  have hvw:s1.heap.get? p = some (vwObj a):=(I1.hok p _ hp).1
  have hT:s1.TypeIs (.ref p) "dict_items" := ⟨_,hvw,rfl⟩
  have I2:=(I1.freezeT hq ho).kept (t':=s1.toks) (h':=s1.heap.push { cls:=.type "dict_itemiterator",data:=.fields #[.none,.bool false,.ref a,.int 0 0,.int es.size 0,.int ep 0,.none,.none] }) fun b o e=>Heap.get?_push_of_some _ e
  refine wpAny_pyIter_slot hT F.slot_dict_items_iter (wpAny_call_entry F.slot_dict_items_iter hT F.entry_dict_items_iter (iter_itemsT hvw ho hx hd ⟨_,rfl, "dict_itemiterator",_,⟨_,Heap.get?_push_size _ rfl,rfl⟩,F.slot_dict_itemiterator_next.lookup,?_⟩) (F.args_dict_items_iter_1 _))
  refine ⟨s1.heap.objs.size,[s1.heap.objs.size],_,_,upd H1 a (.frz o (.dT kvs)),rfl,I2,turn_itemsT a _ o kvs es.size ep hlen ⟨es,hd⟩,⟨_,_,Heap.get?_push_size _ rfl⟩,fun b hb=>?_,q o⟩
  have e:b = s1.heap.objs.size:=by simpa using hb
  subst e
  exact (I1.freezeT hq ho).fpOk (Nat.le_refl _) ((I1.freezeT hq ho).hok.fresh (Nat.le_refl _))
theorem for_itemsT {a:Addr} {o:Obj} {kvs:List (List TKey × V)} {g:TG} {tb:TS} {D:Ends} {σ:St} {H:Hp} (Pv:Nat→St→Hp→Prop) (h0:Pv 0 σ H) (hk:∀ i σ H,i≤kvs.length→Pv i σ H→H a = some (.frz o (.dT kvs)))
    (turn:∀ (i:Nat) (q:List TKey × V) (T b:Addr) (σ:St) (H:Hp) (Nx:St→Hp→Prop),(∀ σ' H',Pv (i + 1) σ' H'→Nx σ' H')→kvs[i]? = some q→Pv i σ H→H T = none→H b = some (.tup (q.1.map tkV))→g (.ref T) σ (upd H T (.tup [.ref b,q.2])) fun σ2 H2=>tb { D with nx:=Nx,ct:=Nx,bk:=D.nx } σ2 H2)
    (fin:∀ σ H,Pv kvs.length σ H→D.nx σ H) :
    ∃ W:Nat→Nat→St→Hp→Prop,(∃ m,W 0 m σ H)∧∀ i m σ H,W i m σ H →
      ((ItT a o kvs).stop i H∧D.nx σ H)∨((ItT a o kvs).go i H∧∃ N:St→Hp→Prop,(∀ σ' H',N σ' H'→∃ m',m' < m∧W (i + 1) m' σ' H')∧∀ x H',(ItT a o kvs).yld i H x H'→g x σ H' fun σ2 H2=>tb { D with nx:=N,ct:=N,bk:=D.nx } σ2 H2):=by
  refine ⟨fun i m σ H=>i≤kvs.length∧m = kvs.length - i∧Pv i σ H,⟨kvs.length,Nat.zero_le _,rfl,h0⟩,?_⟩
  rintro i m σ H ⟨hi,rfl,pv⟩
  have hH:=hk i σ H hi pv
  by_cases e:i = kvs.length
  · subst e
    exact .inl ⟨⟨hH,Nat.le_refl _⟩,fin σ H pv⟩
  · have hi':i < kvs.length:=by omega
    refine .inr ⟨⟨hH,hi'⟩,Pv (i + 1),fun σ' H' p=>⟨kvs.length - (i + 1),by omega,by omega,rfl,p⟩,fun x H2 hy2=>?_⟩
    obtain ⟨T,b,q,rfl,hT,hb,rfl,hy⟩:=hy2
    exact turn i q T b σ H (Pv (i + 1)) (fun _ _ p=>p) hy pv hT hb
theorem comp_itemsT {a:Addr} {o:Obj} {kvs:List (List TKey × V)} {caps:List Nat} {n:Nat} {σ:St} {g:TG} {tc:TT} {te:TE} {F:List V→Hp→Prop} {H1:Hp} (cv:St) (k:Nat) (hn:kvs.length < 1000)
    (Pv:Nat→List V→Hp→Prop) (h0:Pv 0 [] H1) (hk:∀ i acc H,i≤kvs.length→Pv i acc H→H a = some (.frz o (.dT kvs))∧acc.length≤i)
    (turn:∀ (i:Nat) (q:List TKey × V) (T b:Addr) (acc:List V) (H:Hp) (ys:St) (Nx:List V→St→Hp→Prop),(∀ acc' H' zs,zs.length = k→Pv (i + 1) acc' H'→Nx acc' (cv ++ zs) H')→kvs[i]? = some q→ys.length = k→Pv i acc H→H T = none→H b = some (.tup (q.1.map tkV)) →
      g (.ref T) (cv ++ ys) (upd H T (.tup [.ref b,q.2])) fun σ2 H3=>tc σ2 H3 fun b H4=>if b = true then te σ2 H4 fun y H5=>Nx (acc ++ [y]) σ2 H5 else Nx acc σ2 H4)
    (fin:∀ acc H,Pv kvs.length acc H→F acc H) (hcv:capStart caps n σ = cv ++ List.replicate k none:=by rfl) :
    ∃ W:Nat→Nat→List V→St→Hp→Prop,(∃ m,W 0 m [] (capStart caps n σ) H1)∧∀ i m acc σ' H',W i m acc σ' H' →
      ((ItT a o kvs).stop i H'∧F acc H') ∨
      ((ItT a o kvs).go i H'∧acc.length < sizeLine∧∀ x H2,(ItT a o kvs).yld i H' x H2→g x σ' H2 fun σ2 H3=>tc σ2 H3 fun b H4=>if b = true then te σ2 H4 fun y H5=>∃ m',m' < m∧W (i + 1) m' (acc ++ [y]) σ2 H5 else ∃ m',m' < m∧W (i + 1) m' acc σ2 H4):=by
  refine ⟨fun i m acc σ' H'=>i≤kvs.length∧m = kvs.length - i∧(∃ ys,ys.length = k∧σ' = cv ++ ys)∧Pv i acc H',⟨kvs.length,Nat.zero_le _,rfl,⟨_,by simp,hcv⟩,h0⟩,?_⟩
  rintro i m acc σ' H' ⟨hi,rfl,⟨ys,hy,rfl⟩,pv⟩
  obtain ⟨hH,ha⟩:=hk i acc H' hi pv
  by_cases e:i = kvs.length
  · subst e
    exact .inl ⟨⟨hH,Nat.le_refl _⟩,fin acc H' pv⟩
  · have hi':i < kvs.length:=by omega
    refine .inr ⟨⟨hH,hi'⟩,by rw [sizeLine_eq]; omega,fun x H2 hy2=>?_⟩
    obtain ⟨T,b,q,rfl,hT,hb,rfl,hq⟩:=hy2
    exact turn i q T b acc H' ys (fun acc' σ2 H5=>∃ m',m' < kvs.length - i∧(i + 1≤kvs.length∧m' = kvs.length - (i + 1)∧(∃ ys,ys.length = k∧σ2 = cv ++ ys)∧Pv (i + 1) acc' H5)) (fun acc' H5 zs hz p=>⟨kvs.length - (i + 1),by omega,by omega,rfl,⟨zs,hz,rfl⟩,p⟩) hq hy pv hT hb
def sThawT (t:TS):TS:=fun D σ H=>∃ a kvs,H a = some (.dT kvs)∧t { D with nx:=fun σ' H'=>∃ o,H' a = some (.frz o (.dT kvs))∧D.nx σ' (upd H' a (.dT kvs)) } σ H
theorem ps_thawT {st:Stmt} {t:TS} (h:PS X st t):PS X st (sThawT t):=by
  intro pins s σ H D I q
  obtain ⟨a,kvs,h0,q⟩:=q
  refine thn (h pins s σ H _ I q) fun f s1 h1=>?_
  cases f with
  | next =>
    obtain ⟨σ',H',I',o,hf,qn⟩:=h1
    exact ⟨σ',_,I'.thawT I h0 hf,qn⟩
  | brk=>exact h1
  | cont=>exact h1
  | ret u=>exact h1
theorem Same.thawT {H H':Hp} {a:Addr} {o:Obj} {kvs:List (List TKey × V)} (e:Same (upd H a (.frz o (.dT kvs))) H') (h:H a = some (.dT kvs)):Same H (upd H' a (.dT kvs)):=fun b u q=>by
  by_cases hb:b = a
  · subst hb; rw [upd_same,← q,h]
  · rw [upd_ne hb]; exact e b u (by rw [upd_ne hb]; exact q)
def tDispT (tk tv:TE):TE:=fun σ H Q=>∀ p,H p = none→tk σ (upd H p (.dT [])) fun x H1=>tv σ H1 fun y H2=>H2 p = some (.dT [])∧∃ b k,x = .ref b∧H2 b = some (.tup (k.map tkV))∧Q (.ref p) (upd H2 p (.dT [(k,y)]))
theorem pe_dispT {k v:Expr} {pos:Pos} {tk tv:TE} (hu:X.A.units < cLine) (hk:PE X k tk) (hv:PE X v tv):PE X (.Dict [some k] [v] pos) (tDispT tk tv):=by
  intro pins s σ H Q I q
  have hn:=I.hok.fresh (Nat.le_refl s.heap.objs.size)
  have I1:=I.laid (a:=s.heap.objs.size) (o:=.dT []) (h':=s.heap.push { cls:=.type "dict",data:=.dict #[] }) (t':=s.toks) (fun _ _ q=>Heap.get?_push_of_some _ q) (Nat.le_refl _) (dt_empty s.heap I.big)
  have hp:PPs X pos [some k] [v] [(tk,tv)]:=pps_cons hk hv pps_nil
  refine wpAny_Dict_any rfl rfl (by simp) (by simp) (thn (hp pins _ σ _ (fun ps H2=>match ps with | [(x,y)]=>H2 s.heap.objs.size = some (.dT [])∧∃ b kk,x = .ref b∧H2 b = some (.tup (kk.map tkV))∧Q (.ref s.heap.objs.size) (upd H2 s.heap.objs.size (.dT [(kk,y)])) | _=>False) I1 (q _ hn)) fun ws s2 ⟨ps,H2,I2,rel,q2⟩=>?_)
  match ps,rel,q2 with
  | [(x,y)],rel,q2 =>
    obtain ⟨e0,b,kk,ex,eb,q2⟩:=q2
    cases rel with
    | @cons _ wv _ ws' r1 r2 =>
    cases r2
    obtain ⟨wk,wv⟩:=wv
    obtain ⟨r1,r3⟩:=r1
    subst ex
    have r1':wk = Value.ref b:=r1
    subst r1'
    obtain ⟨z,hd,xs,rel,dd⟩:=dt_of I2.hok e0
    cases rel
    unfold storeAll
    rw [List.forIn_cons]
    refine wpAny_bind (wpAny_bind (wpAny_dictSet_heap (knd:=tupleKind (tkKind X.prog X.w)) hu (key_of I2.hok eb) dd (fun h' dd' hs=>wpAny_pure ?_) (Nat.zero_le _)))
    show wpAny _ _ (forIn [] _ _) _ _ _
    rw [List.forIn_nil]
    refine wpAny_pure ⟨.ref s.heap.objs.size,_,?_,rfl,q2⟩
    have he:∃ q,h'.get? s.heap.objs.size = some q:=let ⟨q,_,_,hq,_⟩:=dd'; ⟨q,hq⟩
    have hne:b≠s.heap.objs.size:=fun z=>by subst z; rw [e0] at eb; cases eb
    obtain ⟨o',es,ep,g1,g2,g3,g4,g5,g6⟩:=dd'
    refine d_write I2 (by rw [e0]; exact True.intro) hs he ⟨by show 1≤sizeLine; decide,hd,[(kk,b,wv)],.cons ⟨rfl,by rw [upd_ne hne]; exact eb,r3⟩ .nil,o',es,ep,g1,g2,g3,g4,g6⟩
end
end L2
end
section
set_option Elab.async false
set_option linter.all false
set_option maxRecDepth 100000
set_option maxHeartbeats 1000000
namespace L2
open PySem PySem.Spec PyProof.Rows
open PySem.AutoSeq1 (wpAny_loadPart')
open PySem.MeetsSeq PySem.MeetsSeq2 PySem.MeetsSeq3 PySem.SeqAt
section
variable {prog:Program} {w:World} {A:Around} {E:Value→Shared→Prop} {s:Shared}
end
section
open MyS PySem.W
variable {prog:Program} {w:World} {A:Around} {E:Value→Shared→Prop} {s:Shared}
end
section
variable {prog:Program} {w:World} {A:Around} {E:Value→Shared→Prop} {s:Shared}
end
section
open MyS PySem.W
variable {prog:Program} {w:World} {A:Around} {E:Value→Shared→Prop} {s:Shared}
end
section
variable {X:Cx}
end
end L2
end
section
set_option Elab.async false
set_option linter.all false
set_option maxRecDepth 100000
set_option maxHeartbeats 1000000
namespace MyS
open PySem PySem.Spec PyProof.Rows PySem.W
section
variable {prog:Program} {w:World} {A:Around} {E:Value→Shared→Prop} {s:Shared}
end
end MyS
namespace L2
open PySem PySem.Spec PyProof.Rows
section
open MyS PySem.W
variable {prog:Program} {w:World} {A:Around} {E:Value→Shared→Prop} {s:Shared}
end
section
variable {X:Cx}
end
end L2
end
section
set_option Elab.async false
set_option linter.all false
set_option maxRecDepth 100000
set_option maxHeartbeats 1000000
namespace L2
open PySem PySem.Spec PyProof.Rows
theorem argBest_le (lt:Nat→Nat→Bool):∀ n,argBest lt n≤n
  | 0=>Nat.le_refl _
  | n + 1=>by
    have:=argBest_le lt n
    show (if lt (n + 1) (argBest lt n) = true then n + 1 else argBest lt n)≤n + 1
    split <;> omega
theorem argBest_min {xs:Nat→List Nat}:∀ (n i:Nat),i≤n→¬ xs i < xs (argBest (fun i j=>decide (xs i < xs j)) n)
  | 0,i,h=>by
    have:i = 0:=by omega
    subst this
    exact List.lt_irrefl _
  | n + 1,i,h=>by
    have ih:=argBest_min (xs:=xs) n
    show ¬ xs i < xs (if decide (xs (n + 1) < xs (argBest (fun i j=>decide (xs i < xs j)) n)) = true then n + 1 else argBest (fun i j=>decide (xs i < xs j)) n)
    generalize argBest (fun i j=>decide (xs i < xs j)) n = b at ih ⊢
    by_cases c:xs (n + 1) < xs b
    · rw [if_pos (decide_eq_true c)]
      by_cases e:i = n + 1
      · subst e; exact List.lt_irrefl _
      · exact fun z=>ih i (by omega) (List.lt_trans z c)
    · rw [if_neg (by simpa using c)]
      by_cases e:i = n + 1
      · subst e; exact c
      · exact ih i (by omega)
section
variable {X:Cx}
theorem call_minL (hc:X.calm = true):CallR X (.builtin "min") (fun xs H Q=>∃ (p:Addr) (ss:List Str),xs = [.ref p]∧SqL X.K H p (ss.map V.str)∧ss≠[]∧∀ t,t∈ss→(∀ u∈ss,¬ u.cps.toList < t.cps.toList)→Q (.str t) H):=by
  intro pins s σ H xs us Q I r h
  obtain ⟨p,ss,rfl,hq,hne,q⟩:=h
  obtain ⟨u,rfl,ru⟩:=vals1 r
  cases ru
  obtain ⟨its,rv,pl,hz⟩:=I.list hq
  have hl:its.length = ss.length:=by have:=rv.length; simpa using this.symm
  have hp:p≠s.heap.objs.size:=by
    obtain ⟨o,n,e,_⟩:=pl
    exact Nat.ne_of_lt (Heap.lt_size e)
  have hpos:0 < ss.length:=List.length_pos_iff.mpr hne
  have vget:∀ (i:Nat) (v:Value),its.toArray[i]? = some v→∃ tk,v = .str (ss.getD i ⟨#[]⟩) tk:=fun i v e=>by
    have e':its[i]? = some v:=by simpa using e
    have hi:i < ss.length:=by rw [← hl]; exact (List.getElem?_eq_some_iff.mp e').1
    obtain ⟨u,e1,e2⟩:=rv.get (i:=i) (x:=.str (ss.getD i ⟨#[]⟩)) (by rw [List.getElem?_map]; simp [hi])
    rw [e'] at e1
    cases e1
    exact e2
  refine call_min_walk (wpAny_pyIter_list pl.isList ?_)
  have hpl:p < s.heap.objs.size:=by
    obtain ⟨o,n,e,_⟩:=pl
    exact Heap.lt_size e
  refine ⟨s.heap.objs.size,_,_,its.toArray.size,_,_,fun i j=>decide ((ss.getD i ⟨#[]⟩).cps.toList < (ss.getD j ⟨#[]⟩).cps.toList),rfl,Walks.list (A:=X.A.in1) (I.ok.hd hc) _ p hp its.toArray,⟨⟨_,Heap.get?_push_size _ rfl,rfl,rfl⟩,?_⟩,fun c hcm=>?_,by rw [List.size_toArray,hl]; exact hpos,fun i j vi vj s' Q' E' hi hj hQ=>?_,fun v h' tk hP hk=>?_⟩
  · exact pl.isList.at fun o e=>Heap.get?_push_of_some _ e
  · show c < (s.heap.push _).objs.size
    rw [Heap.size_push]
    rcases List.mem_cons.mp hcm with rfl | hcm
    · exact Nat.lt_succ_self _
    · rcases List.mem_cons.mp hcm with rfl | hcm
      · exact Nat.lt_succ_of_lt hpl
      · cases hcm
  · obtain ⟨a,rfl⟩:=vget i vi hi
    obtain ⟨b,rfl⟩:=vget j vj hj
    exact lt_str hQ
  · have hold:∀ c o,s.heap.get? c = some o→h'.get? c = some o:=fun c o e=>by
      refine hk c o (fun hm=>?_) (Heap.get?_push_of_some _ e)
      have hlt:=Heap.lt_size e
      have:c = s.heap.objs.size:=by simpa using hm
      exact absurd hlt (by rw [this]; exact Nat.lt_irrefl _)
    have hsz:its.toArray.size = ss.length:=by rw [List.size_toArray,hl]
    rw [hsz] at hP
    obtain ⟨tk',e⟩:=vget _ v hP
    have hb:=argBest_le (fun i j=>decide ((ss.getD i ⟨#[]⟩).cps.toList < (ss.getD j ⟨#[]⟩).cps.toList)) (ss.length - 1)
    have hm:=argBest_min (xs:=fun i=>(ss.getD i ⟨#[]⟩).cps.toList) (ss.length - 1)
    generalize argBest (fun i j=>decide ((ss.getD i ⟨#[]⟩).cps.toList < (ss.getD j ⟨#[]⟩).cps.toList)) (ss.length - 1) = b at hb hm e
    have hbl:b < ss.length:=by omega
    refine ⟨.str (ss.getD b ⟨#[]⟩),H,I.kept hold,⟨tk',e⟩,q _ ?_ fun u hu=>?_⟩
    · rw [List.getD_eq_getElem?_getD,List.getElem?_eq_getElem hbl]; exact List.getElem_mem hbl
    · obtain ⟨i,hi,rfl⟩:=List.getElem_of_mem hu
      have:=hm i (by omega)
      have e1:ss.getD i ⟨#[]⟩ = ss[i]:=by simp [hi]
      rw [e1] at this
      exact this
end
end L2
end
section
set_option Elab.async false
set_option linter.all false
set_option maxRecDepth 100000
set_option maxHeartbeats 1000000
namespace L2
open PySem PySem.Spec PyProof.Rows
section
variable {X:Cx}
end
section
variable {prog:Program} {w:World} {A:Around} {E:Value→Shared→Prop} {s:Shared}
end
section
variable {X:Cx}
theorem op_catTT:OpR X (binaryOp .Add) (fun x y H Q=>∃ a b xs ys,x = .ref a∧y = .ref b∧H a = some (.tup xs)∧H b = some (.tup ys)∧xs.length + ys.length≤sizeLine∧∀ p H',Same H H'→H' p = some (.tup (xs ++ ys))→Q (.ref p) H'):=by
  intro pins s σ H x y v u Q I rx ry h
  obtain ⟨a,b,xs,ys,rfl,rfl,ha,hb,hz,q⟩:=h
  by_cases hx:xs = []
  · subst hx
    exact op_catT0 pins s σ H _ _ v u Q I rx ry ⟨a,b,ys,rfl,rfl,.of ha,.of hb,q b H (Same.refl H) hb⟩
  · refine op_catT pins s σ H _ _ v u Q I rx ry ⟨a,b,xs,ys,rfl,rfl,.of ha,.of hb,hx,hz,fun hy=>q a H (Same.refl H) (by rw [hy,List.append_nil]; exact ha),fun _ p hp=>q p _ (Same.upd1 hp) upd_same⟩
end
end L2
end
section
set_option Elab.async false
set_option linter.all false
set_option maxHeartbeats 400000
namespace Kn
def Go (ps:List (S × S)) (o:Nat) (t:S):Prop:=∀ q∈pp o t,q∈ps
instance (ps:List (S × S)) (o:Nat) (t:S):Decidable (Go ps o t):=by unfold Go; infer_instance
def Mk (ps:List (S × S)) (o:Nat) (t:S):Prop:=∀ q∈pairs1 o t,q∈ps
theorem go_nil (ps:List (S × S)) (o:Nat):Go ps o []:=fun q hq=>by cases hq
theorem go_snoc {ps:List (S × S)} {o:Nat} {t:S} {c:Nat}:Go ps o (t ++ [c])↔Go ps o t∧(endOf t o,[c])∈ps:=by
  unfold Go
  rw [pp_snoc]
  constructor
  · intro h
    exact ⟨fun q hq=>h q (List.mem_append_left _ hq),h _ (List.mem_append_right _ (List.mem_singleton_self _))⟩
  · rintro ⟨h1,h2⟩ q hq
    rcases List.mem_append.mp hq with z | z
    · exact h1 q z
    · have:q = (endOf t o,[c]):=by simpa using z
      rw [this]; exact h2
theorem mk_iff {ps:List (S × S)} {o:Nat} {t:S}:Mk ps o t↔Go ps o t∧(endOf t o,[])∈ps:=by
  unfold Mk Go
  rw [pairs1_pp]
  constructor
  · intro h
    exact ⟨fun q hq=>h q (List.mem_append_left _ hq),h _ (List.mem_append_right _ (List.mem_singleton_self _))⟩
  · rintro ⟨h1,h2⟩ q hq
    rcases List.mem_append.mp hq with z | z
    · exact h1 q z
    · have:q = (endOf t o,[]):=by simpa using z
      rw [this]; exact h2
theorem go_row {o:Nat} {bk:List S} (h0:bk≠[]) {t:S} (h:Go (pairsB o bk) o t):∃ l,(endOf t o,l)∈pairsB o bk:=by
  by_cases e:t = []
  · subst e
    match bk,h0 with
    | nm :: r,_ =>
      obtain ⟨r',e1⟩:=pairs1_head o nm
      refine ⟨nm.take 1,List.mem_flatMap.mpr ⟨nm,List.mem_cons_self ..,?_⟩⟩
      rw [e1]
      have:endOf [] o = []:=by simp [endOf]
      rw [this]; exact List.mem_cons_self ..
  · obtain ⟨u,c,rfl⟩:=snoc_of e
    obtain ⟨_,h2⟩:=go_snoc.mp h
    obtain ⟨l,hl⟩:=pairB_next h2
    rw [endOf_end] at hl
    exact ⟨l,hl⟩
theorem min2_le1 (a b:S):¬ a < min2 a b:=by
  unfold min2; split
  · rename_i h; exact fun z=>s_irr _ (s_tr h z)
  · exact s_irr _
theorem min2_le2 (a b:S):¬ b < min2 a b:=by
  unfold min2; split
  · exact s_irr _
  · rename_i h; exact h
theorem nlt_tr {a b c:S} (h1:¬ a < b) (h2:¬ b < c):¬ a < c:=List.not_lt.mpr (List.le_trans (List.not_lt.mp h2) (List.not_lt.mp h1))
abbrev St2:=(S × Bool) × S
def putM (F:List St2) (c:St2):List St2:=putA F c.1 (min2 ((getA F c.1).getD c.2) c.2)
theorem mem_putA {κ α:Type} [DecidableEq κ] {l:List (κ × α)} {k:κ} {v:α} (nd:(l.map (·.1)).Nodup) (q:κ × α):q∈putA l k v↔q = (k,v)∨q∈l∧q.1≠k:=by
  obtain ⟨k',v'⟩:=q
  rw [getA_mem (putA_nodup nd),getA_putA,getA_mem nd]
  by_cases e:k = k'
  · subst e
    rw [if_pos rfl]
    constructor
    · intro h; exact .inl (by rw [Option.some.inj h])
    · rintro (h | ⟨_,h⟩)
      · rw [(Prod.mk.inj h).2]
      · exact absurd rfl h
  · rw [if_neg e]
    constructor
    · intro h; exact .inr ⟨h,fun z=>e z.symm⟩
    · rintro (h | ⟨h,_⟩)
      · exact absurd (Prod.mk.inj h).1.symm e
      · exact h
theorem putM_ok {F:List St2} (nd:(F.map (·.1)).Nodup) (c:St2):((putM F c).map (·.1)).Nodup∧(∀ p∈putM F c,p∈F∨p = c)∧∀ p,p∈F∨p = c→∃ u,(p.1,u)∈putM F c∧¬ p.2 < u:=by
  refine ⟨putA_nodup nd,fun p hp=>?_,fun p hp=>?_⟩
  · rcases (mem_putA nd p).mp hp with z | ⟨z,_⟩
    · cases g:getA F c.1 with
      | none =>
        rw [g] at z
        have:min2 ((none:Option S).getD c.2) c.2 = c.2:=by rcases min2_or c.2 c.2 with e | e <;> exact e
        rw [this] at z
        exact .inr z
      | some v =>
        rw [g] at z
        rcases min2_or v c.2 with e | e
        · rw [show (some v).getD c.2 = v from rfl,e] at z
          rw [z]; exact .inl ((getA_mem nd _ _).mpr g)
        · rw [show (some v).getD c.2 = v from rfl,e] at z
          exact .inr z
    · exact .inl z
  · by_cases e:p.1 = c.1
    · refine ⟨_,(mem_putA nd _).mpr (.inl (by rw [e])),?_⟩
      rcases hp with hp | rfl
      · have g:getA F c.1 = some p.2:=(getA_mem nd _ _).mp (by rw [← e]; exact hp)
        rw [g]; exact min2_le1 _ _
      · exact min2_le2 _ _
    · rcases hp with hp | rfl
      · exact ⟨p.2,(mem_putA nd _).mpr (.inr ⟨hp,e⟩),s_irr _⟩
      · exact absurd rfl e
structure FoldM (C:List St2) (R:List St2):Prop where
  nd:(R.map (·.1)).Nodup
  snd:∀ p∈R,p∈C
  all:∀ p∈C,∃ u,(p.1,u)∈R∧¬ p.2 < u
theorem FoldM.nil:FoldM [] []:=⟨by simp,by simp,by simp⟩
theorem FoldM.snoc {C R:List St2} (h:FoldM C R) (c:St2):FoldM (C ++ [c]) (putM R c):=by
  obtain ⟨h1,h2,h3⟩:=putM_ok h.nd c
  refine ⟨h1,fun p hp=>?_,fun p hp=>?_⟩
  · rcases h2 p hp with z | z
    · exact List.mem_append_left _ (h.snd p z)
    · rw [z]; exact List.mem_append_right _ (List.mem_singleton_self _)
  · rcases List.mem_append.mp hp with z | z
    · obtain ⟨u,hu,hl⟩:=h.all p z
      obtain ⟨v,hv,hl2⟩:=h3 (p.1,u) (.inl hu)
      exact ⟨v,hv,nlt_tr hl hl2⟩
    · have:p = c:=by simpa using z
      subst this
      exact h3 p (.inr rfl)
structure Fst (ps1 ps2:List (S × S)) (o n:Nat) (F:List St2):Prop where
  nd:(F.map (·.1)).Nodup
  snd:∀ p∈F,p.2.length = n∧Go ps2 o p.2∧p.1 = (endOf p.2 o,decide (Go ps1 o p.2))
  all:∀ t,t.length = n→Go ps2 o t→∃ u,((endOf t o,decide (Go ps1 o t)),u)∈F∧¬ t < u
theorem Fst.start (ps1 ps2:List (S × S)) (o:Nat):Fst ps1 ps2 o 0 [(([],true),[])]:=by
  have e0:endOf [] o = []:=by simp [endOf]
  refine ⟨by simp,fun p hp=>?_,fun t ht _=>?_⟩
  · have:p = (([],true),[]):=by simpa using hp
    subst this
    exact ⟨rfl,go_nil _ _,by rw [e0,decide_eq_true (go_nil ps1 o)]⟩
  · have:t = []:=List.length_eq_zero_iff.mp ht
    subst this
    refine ⟨[],?_,s_irr _⟩
    rw [e0,decide_eq_true (go_nil ps1 o)]
    exact List.mem_singleton_self _
def nextC (ps1:List (S × S)) (nx:S→List S) (o:Nat) (p:St2):List St2:=((nx p.1.1).filter fun l=>decide (l≠[])).map fun l=>((endOf (p.2 ++ l) o,p.1.2 && decide ((p.1.1,l)∈ps1)),p.2 ++ l)
theorem Fst.step {ps1 ps2:List (S × S)} {nx:S→List S} {o n:Nat} {F R:List St2} (h:Fst ps1 ps2 o n F) (hn:∀ e l,l∈nx e↔(e,l)∈ps2) (O1:Ones ps2) (hR:FoldM (F.flatMap (nextC ps1 nx o)) R):Fst ps1 ps2 o (n + 1) R:=by
  refine ⟨hR.nd,fun p hp=>?_,fun t ht hg=>?_⟩
  · obtain ⟨q,hq,hpq⟩:=List.mem_flatMap.mp (hR.snd p hp)
    obtain ⟨l,hl,rfl⟩:=List.mem_map.mp hpq
    obtain ⟨hl1,hl2⟩:=List.mem_filter.mp hl
    have hl3:=(hn _ _).mp hl1
    obtain ⟨c,rfl⟩:=one_of (O1 _ _ hl3) (of_decide_eq_true hl2)
    obtain ⟨h1,h2,h3⟩:=h.snd q hq
    have e1:q.1.1 = endOf q.2 o:=by rw [h3]
    have e2:q.1.2 = decide (Go ps1 o q.2):=by rw [h3]
    refine ⟨by simp [h1],go_snoc.mpr ⟨h2,by rw [← e1]; exact hl3⟩,?_⟩
    show (_,_) = (_,_)
    congr 1
    rw [e1,e2]
    by_cases g1:Go ps1 o q.2 <;> by_cases g2:(endOf q.2 o,[c])∈ps1 <;> simp [g1,g2,go_snoc]
  · have hne:t≠[]:=fun z=>by rw [z] at ht; cases ht
    obtain ⟨u,c,rfl⟩:=snoc_of hne
    obtain ⟨g1,g2⟩:=go_snoc.mp hg
    have hul:u.length = n:=by rw [List.length_append,List.length_singleton] at ht; omega
    obtain ⟨v,hv,hlt⟩:=h.all u hul g1
    obtain ⟨k1,k2,k3⟩:=h.snd _ hv
    have k1':v.length = n:=k1
    have ee:endOf v o = endOf u o:=(congrArg (fun z=>z.1) k3).symm
    have eh:decide (Go ps1 o u) = decide (Go ps1 o v):=congrArg (fun z=>z.2) k3
    have e3:endOf (v ++ [c]) o = endOf (u ++ [c]) o:=by rw [← endOf_end,ee,endOf_end]
    have e4:(decide (Go ps1 o u) && decide ((endOf u o,[c])∈ps1)) = decide (Go ps1 o (u ++ [c])):=by
      by_cases g1:Go ps1 o u <;> by_cases g2:(endOf u o,[c])∈ps1 <;> simp [g1,g2,go_snoc]
    have hc:((endOf (u ++ [c]) o,decide (Go ps1 o (u ++ [c]))),v ++ [c])∈F.flatMap (nextC ps1 nx o):=by
      refine List.mem_flatMap.mpr ⟨_,hv,List.mem_map.mpr ⟨[c],List.mem_filter.mpr ⟨(hn _ _).mpr g2,by simp⟩,?_⟩⟩
      show ((endOf (v ++ [c]) o,_),_) = _
      rw [e3]
      show ((_,decide (Go ps1 o u) && decide ((endOf u o,[c])∈ps1)),_) = _
      rw [e4]
    obtain ⟨w,hw,hlw⟩:=hR.all _ hc
    refine ⟨w,hw,nlt_tr (fun z=>?_) hlw⟩
    by_cases e:u = v
    · subst e; exact s_irr _ z
    · have hvu:v < u:=by
        by_cases q:v < u
        · exact q
        · exact absurd (s_tri _ _ hlt q) e
      exact s_irr _ (s_tr (lt_app [c] [c] (by omega) hvu) z)
def Lost (ps1 ps2:List (S × S)) (o:Nat) (t:S):Prop:=1≤t.length∧t.length≤8∧Mk ps2 o t∧¬ Mk ps1 o t
def alone (ps1 ps2:List (S × S)) (k:S × Bool):Bool:=decide ((k.1,[])∈ps2) && !(k.2 && decide ((k.1,[])∈ps1))
theorem alone_iff {ps1 ps2:List (S × S)} {o:Nat} {t:S} (hg:Go ps2 o t):alone ps1 ps2 (endOf t o,decide (Go ps1 o t)) = true↔Mk ps2 o t∧¬ Mk ps1 o t:=by
  unfold alone
  rw [mk_iff,mk_iff]
  by_cases g1:Go ps1 o t <;> by_cases g2:(endOf t o,[])∈ps1 <;> by_cases g3:(endOf t o,[])∈ps2 <;> simp [g1,g2,g3,hg]
def IsLack (ps1 ps2:List (S × S)) (o:Nat):Option S→Prop
  | none=>∀ t,¬ Lost ps1 ps2 o t
  | some t=>Lost ps1 ps2 o t∧∀ u,Lost ps1 ps2 o u→t.length < u.length∨t.length = u.length∧¬ u < t
theorem IsLack.uniq {ps1 ps2:List (S × S)} {o:Nat}:∀ {r s:Option S},IsLack ps1 ps2 o r→IsLack ps1 ps2 o s→r = s
  | none,none,_,_=>rfl
  | none,some t,h1,h2=>absurd h2.1 (h1 t)
  | some t,none,h1,h2=>absurd h1.1 (h2 t)
  | some t,some u,h1,h2=>by
    have a:=h1.2 u h2.1
    have b:=h2.2 t h1.1
    have e:t.length = u.length:=by omega
    have a' : ¬ u < t := by rcases a with a | a; · omega
                            · exact a.2
    have b' : ¬ t < u := by rcases b with b | b; · omega
                            · exact b.2
    rw [s_tri _ _ b' a']
def NoLost (ps1 ps2:List (S × S)) (o n:Nat):Prop:=∀ t,t.length = n→¬ Lost ps1 ps2 o t
def namesOf (ps1 ps2:List (S × S)) (F:List St2):List S:=(F.filter fun p=>alone ps1 ps2 p.1).map (·.2)
theorem names_none {ps1 ps2:List (S × S)} {o n:Nat} {F:List St2} (h:Fst ps1 ps2 o n F) (e:namesOf ps1 ps2 F = []):NoLost ps1 ps2 o n:=by
  rintro t ht ⟨h1,h2,h3,h4⟩
  have hg:=(mk_iff.mp h3).1
  obtain ⟨u,hu,_⟩:=h.all t ht hg
  have:u∈namesOf ps1 ps2 F:=List.mem_map.mpr ⟨_,List.mem_filter.mpr ⟨hu,(alone_iff hg).mpr ⟨h3,h4⟩⟩,rfl⟩
  rw [e] at this; cases this
theorem names_some {ps1 ps2:List (S × S)} {o n:Nat} {F:List St2} (h:Fst ps1 ps2 o n F) (hn:1≤n) (hn8:n≤8) (hno:∀ m,1≤m→m < n→NoLost ps1 ps2 o m) {t:S} (ht:t∈namesOf ps1 ps2 F) (hmin:∀ u∈namesOf ps1 ps2 F,¬ u < t):IsLack ps1 ps2 o (some t):=by
  obtain ⟨p,hp,rfl⟩:=List.mem_map.mp ht
  obtain ⟨hp1,hp2⟩:=List.mem_filter.mp hp
  obtain ⟨k1,k2,k3⟩:=h.snd p hp1
  rw [k3] at hp2
  obtain ⟨m1,m2⟩:=(alone_iff k2).mp hp2
  refine ⟨⟨by omega,by omega,m1,m2⟩,fun u hu=>?_⟩
  have hL:=hu
  obtain ⟨u1,u2,u3,u4⟩:=hu
  rcases Nat.lt_trichotomy u.length n with z | z | z
  · exact absurd hL (hno u.length u1 z u rfl)
  · refine .inr ⟨by omega,?_⟩
    have hg:=(mk_iff.mp u3).1
    obtain ⟨v,hv,hlv⟩:=h.all u z hg
    have hv2:v∈namesOf ps1 ps2 F:=List.mem_map.mpr ⟨_,List.mem_filter.mpr ⟨hv,(alone_iff hg).mpr ⟨u3,u4⟩⟩,rfl⟩
    exact nlt_tr hlv (hmin v hv2)
  · exact .inl (by omega)
theorem lack_none {ps1 ps2:List (S × S)} {o:Nat} (h:∀ m,1≤m→m≤8→NoLost ps1 ps2 o m):IsLack ps1 ps2 o none:=fun t ht=>h t.length ht.1 ht.2.1 t rfl ht
end Kn
end
section
set_option Elab.async false
set_option linter.all false
set_option maxRecDepth 100000
set_option maxHeartbeats 1000000
namespace Kn
open PySem L2
abbrev sk (k:S × Bool):List TKey:=[.inl (tx k.1),.inr k.2]
theorem sk_inj {a b:S × Bool} (h:sk a = sk b):a = b:=by
  obtain ⟨a1,a2⟩:=a
  obtain ⟨b1,b2⟩:=b
  have h1:=(List.cons.inj h).1
  have h2:=(List.cons.inj (List.cons.inj h).2).1
  exact Prod.ext (tx_inj (Sum.inl.inj h1)) (Sum.inr.inj h2)
def encF (F:List St2):List (List TKey × V):=F.map fun p=>(sk p.1,sv p.2)
theorem encF_cons (p:St2) (F:List St2):encF (p :: F) = (sk p.1,sv p.2) :: encF F:=rfl
theorem encF_len (F:List St2):(encF F).length = F.length:=by simp [encF]
theorem val_encF (F:List St2) (k:S × Bool):valV (encF F) (sk k) = (getA F k).map sv:=by
  induction F with
  | nil=>rfl
  | cons p r ih =>
    rw [encF_cons]
    by_cases e:p.1 = k
    · have e2:sk p.1 = sk k:=by rw [e]
      rw [valV_pos e2]
      obtain ⟨a,b⟩:=p
      have e':a = k:=e
      subst e'
      simp [getA]
    · rw [valV_neg (fun z=>e (sk_inj z)),ih]
      obtain ⟨a,b⟩:=p
      have e':¬ a = k:=e
      simp [getA,e']
theorem any_encF (F:List St2) (k:S × Bool):((encF F).any fun kv=>decide (kv.1 = sk k)) = decide (k∈F.map (·.1)):=by
  induction F with
  | nil=>rfl
  | cons p r ih =>
    rw [encF_cons,List.any_cons,ih]
    by_cases e:p.1 = k
    · have:decide (sk p.1 = sk k) = true:=decide_eq_true (by rw [e])
      rw [this,Bool.true_or]
      exact (decide_eq_true (by rw [← e]; exact List.mem_cons_self ..)).symm
    · have:decide (sk p.1 = sk k) = false:=decide_eq_false (fun z=>e (sk_inj z))
      rw [this,Bool.false_or]
      congr 1
      have e':¬ k = p.1:=fun z=>e z.symm
      simp [e']
theorem put_encF (F:List St2) (k:S × Bool) (t:S) (nd:(F.map (·.1)).Nodup):putK (encF F) (sk k) (sv t) = encF (putA F k t):=by
  unfold putK
  rw [any_encF]
  by_cases hk:k∈F.map (·.1)
  · rw [if_pos (decide_eq_true hk)]
    induction F with
    | nil=>cases hk
    | cons p r ih =>
      obtain ⟨a,b⟩:=p
      have nd':=List.nodup_cons.mp nd
      rw [encF_cons,List.map_cons]
      by_cases e:a = k
      · subst e
        have e1:putA ((a,b) :: r) a t = (a,t) :: r:=by simp [putA]
        rw [e1,encF_cons]
        congr 1
        · simp
        · have:∀ q∈encF r,(if q.1 = sk a then (q.1,sv t) else q) = q:=fun q hq=>by
            rw [if_neg]
            intro z
            obtain ⟨s,hs,e2⟩:=List.mem_map.mp hq
            have h4:q.1 = sk s.1:=by rw [← e2]
            rw [h4] at z
            exact nd'.1 (List.mem_map.mpr ⟨s,hs,sk_inj z⟩)
          rw [List.map_congr_left this]; simp
      · have e1:putA ((a,b) :: r) k t = (a,b) :: putA r k t:=by simp [putA,e]
        rw [e1,encF_cons]
        congr 1
        · rw [if_neg (fun z=>e (sk_inj z))]
        · exact ih nd'.2 (by
            rcases List.mem_cons.mp hk with z | z
            · exact absurd z.symm e
            · exact z)
  · rw [if_neg (by simpa using hk)]
    clear nd
    induction F with
    | nil=>rfl
    | cons p r ih =>
      obtain ⟨a,b⟩:=p
      have e:¬ a = k:=fun z=>hk (by rw [← z]; exact List.mem_cons_self ..)
      have e1:putA ((a,b) :: r) k t = (a,b) :: putA r k t:=by simp [putA,e]
      rw [e1,encF_cons,encF_cons,List.cons_append,ih fun z=>hk (List.mem_cons_of_mem _ z)]
theorem states_le {ps:List (S × S)} {F:List St2} (nd:(F.map (·.1)).Nodup) (h:∀ p∈F,∃ l,(p.1.1,l)∈ps):F.length≤2 * ps.length:=by
  have:=nd_le (F.map (·.1)) ((ps.map (·.1)).map (·,true) ++ (ps.map (·.1)).map (·,false)) nd fun k hk=>by
    obtain ⟨p,hp,rfl⟩:=List.mem_map.mp hk
    obtain ⟨l,hl⟩:=h p hp
    have h1:p.1.1∈ps.map (·.1):=List.mem_map.mpr ⟨_,hl,rfl⟩
    cases e:p.1.2 with
    | true=>exact List.mem_append_left _ (List.mem_map.mpr ⟨_,h1,Prod.ext rfl e.symm⟩)
    | false=>exact List.mem_append_right _ (List.mem_map.mpr ⟨_,h1,Prod.ext rfl e.symm⟩)
  simp at this
  omega
theorem Fst.rows {o:Nat} {ps1:List (S × S)} {bk:List S} {n:Nat} {F:List St2} (h:Fst ps1 (pairsB o bk) o n F) (h0:bk≠[]) {p:St2} (hp:p∈F):∃ l,(p.1.1,l)∈pairsB o bk:=by
  obtain ⟨_,h2,h3⟩:=h.snd p hp
  rw [h3]
  exact go_row h0 h2
theorem Fst.rows1 {o:Nat} {ps2:List (S × S)} {bk:List S} {n:Nat} {F:List St2} (h:Fst (pairsB o bk) ps2 o n F) (h0:bk≠[]) {p:St2} (hp:p∈F) (ht:p.1.2 = true):∃ l,(p.1.1,l)∈pairsB o bk:=by
  obtain ⟨_,h2,h3⟩:=h.snd p hp
  rw [h3] at ht ⊢
  exact go_row h0 (of_decide_eq_true ht)
theorem Fst.few {o:Nat} {ps1:List (S × S)} {bk:List S} {n:Nat} {F:List St2} (h:Fst ps1 (pairsB o bk) o n F) (hb:Bk bk o):F.length < 1000:=by
  have h1:=states_le h.nd fun p hp=>h.rows (fun z=>by have:=hb.lo; rw [z] at this; cases this) hp
  have h2:((pairsB o bk).length:Int)≤72:=by
    rw [pairsB_length]
    have go:∀ l:List S,(∀ x∈l,x.length≤8)→(l.map fun x=>(x.length:Int) + 1).sum≤9 * (l.length:Int):=by
      intro l
      induction l with
      | nil=>intro _; simp
      | cons x r ih =>
        intro hl
        have h1:=hl x (List.mem_cons_self ..)
        have h2:=ih fun y hy=>hl y (List.mem_cons_of_mem _ hy)
        rw [List.map_cons,List.sum_cons,List.length_cons]
        have:((r.length + 1:Nat):Int) = (r.length:Int) + 1:=rfl
        omega
    have:=go bk hb.l8
    have:=hb.hi
    omega
  omega
theorem RowsAt.row {H:Hp} {d:Addr} {ps:List (S × S)} (h:RowsAt H d ps) {e l:S} (hl:(e,l)∈ps):∃ (kvs:List (Key × V)) (ra:Addr),H d = some (.dK kvs)∧valV kvs (Sum.inr (tx e)) = some (.ref ra)∧H ra = some (.dK (rowV (rowOf ps e))):=by
  obtain ⟨kvs,h1,h2⟩:=h.get e
  rcases h2 with ⟨_,h3⟩ | ⟨ra,h3,h4⟩
  · exfalso
    have:=(rowOf_mem ps e l (ps.count (e,l):Int)).mpr ⟨rfl,by have:=List.count_pos_iff.mpr hl; omega⟩
    rw [h3] at this; cases this
  · exact ⟨kvs,ra,h1,h3,h4⟩
theorem rowOf_has (ps:List (S × S)) (e l:S):(valV (rowV (rowOf ps e)) (Sum.inr (tx l))).isSome = decide ((e,l)∈ps):=by
  rw [val_enc,rowOf_get]
  by_cases h:(e,l)∈ps
  · rw [if_pos (List.count_pos_iff.mpr h),decide_eq_true h]; rfl
  · rw [if_neg (fun z=>h (List.count_pos_iff.mp z)),decide_eq_false h]; rfl
def RdAll (H H':Hp):Prop:=∀ b u,H b = some u→Rd H' b u
theorem RdAll.frz {H:Hp} {a:Addr} {o:Obj} {u:HO} (h:H a = some u):RdAll H (upd H a (.frz o u)):=fun b v e=>by
  by_cases hb:b = a
  · subst hb
    rw [h] at e
    cases e
    exact .inr ⟨o,upd_same⟩
  · exact .inl (by rw [upd_ne hb]; exact e)
theorem DGet.kR {H:Hp} {a:Addr} {kvs:List (Key × V)} {k:Key} (e:Rd H a (.dK kvs)):DGet H a (kV k) (valV kvs k):=.inl ⟨kvs,k,e,rfl,rfl⟩
end Kn
end
section
set_option Elab.async false
set_option linter.all false
set_option maxRecDepth 100000
set_option maxHeartbeats 1000000
namespace Kn
open PySem L2
def SameX (f:Addr) (H H':Hp):Prop:=∀ b u,b≠f→H b = some u→H' b = some u
theorem SameX.refl {f:Addr} (H:Hp):SameX f H H:=fun b u _ h=>h
theorem SameX.upd1 {f a:Addr} {H H':Hp} {u:HO} (s:SameX f H H') (h:H' a = none):SameX f H (upd H' a u):=fun b v hb e=>by
  have:=s b v hb e
  rw [upd_ne (ne_of_none this h)]; exact this
theorem SameX.updf {f:Addr} {H H':Hp} {u:HO} (s:SameX f H H'):SameX f H (upd H' f u):=fun b v hb e=>by rw [upd_ne hb]; exact s b v hb e
abbrev nxOf (ps:List (S × S)) (e:S):List S:=(rowOf ps e).map (·.1)
theorem nxOf_mem (ps:List (S × S)) (e l:S):l∈nxOf ps e↔(e,l)∈ps:=by
  constructor
  · intro h
    obtain ⟨⟨l',n⟩,h1,rfl⟩:=List.mem_map.mp h
    obtain ⟨h2,h3⟩:=(rowOf_mem ps e l' n).mp h1
    have h4:0 < ps.count (e,l'):=by rw [h2] at h3; omega
    exact List.count_pos_iff.mp h4
  · intro h
    exact List.mem_map.mpr ⟨(l,(ps.count (e,l):Int)),(rowOf_mem ps e l _).mpr ⟨rfl,by have:=List.count_pos_iff.mpr h; omega⟩,rfl⟩
theorem ones_B (o:Nat) (bk:List S):Ones (pairsB o bk):=fun e l h=>pairB_one h
abbrev cand (ps1:List (S × S)) (o:Nat) (p:St2) (l:S):St2:=((endOf (p.2 ++ l) o,p.1.2 && decide ((p.1.1,l)∈ps1)),p.2 ++ l)
theorem nextC_row {o:Nat} {ps1:List (S × S)} {bk:List S} {n:Nat} {F:List St2} (h:Fst ps1 (pairsB o bk) o n F) {p:St2} (hp:p∈F) {l:S} (hl:l∈nxOf (pairsB o bk) p.1.1) (hn:l≠[]):∃ l',((cand ps1 o p l).1.1,l')∈pairsB o bk:=by
  have hl':=(nxOf_mem _ _ _).mp hl
  obtain ⟨c,rfl⟩:=one_of (pairB_one hl') hn
  obtain ⟨l',h2⟩:=pairB_next hl'
  obtain ⟨_,_,h3⟩:=h.snd p hp
  have e1:p.1.1 = endOf p.2 o:=by rw [h3]
  rw [e1,endOf_end] at h2
  exact ⟨l',h2⟩
theorem pairs72 {bk:List S} {o:Nat} (hb:Bk bk o):(pairsB o bk).length≤72:=by
  have h2:((pairsB o bk).length:Int)≤72:=by
    rw [pairsB_length]
    have go:∀ l:List S,(∀ x∈l,x.length≤8)→(l.map fun x=>(x.length:Int) + 1).sum≤9 * (l.length:Int):=by
      intro l
      induction l with
      | nil=>intro _; simp
      | cons x r ih =>
        intro hl
        have h1:=hl x (List.mem_cons_self ..)
        have h2:=ih fun y hy=>hl y (List.mem_cons_of_mem _ hy)
        rw [List.map_cons,List.sum_cons,List.length_cons]
        have:((r.length + 1:Nat):Int) = (r.length:Int) + 1:=rfl
        omega
    have:=go bk hb.l8
    have:=hb.hi
    omega
  omega
theorem tx_min (a b:S):(if (tx b).cps.toList < (tx a).cps.toList then tx b else tx a) = tx (min2 a b):=by
  rw [tx_cps,tx_cps]
  unfold min2
  split <;> rfl
section
variable {P:Program} {w:World} {K:PySem.W.Frag} {mg:Str→Option Value} {base:Heap}
abbrev sNext:Stmt:=top 38
theorem scNext:FnScope ["first_rows", "rows", "order", "firsts", "found", "state", "text", "letter", "held", "reached"] ["first_rows", "rows", "order", "firsts"] (defScope sNext):=⟨rfl,rfl,rfl,by decide +kernel,rfl,by decide +kernel,by decide +kernel⟩
def spNext:Sp:=fun vs H Q _=>∃ (a1 a2 d:Addr) (F:List St2) (bk1 bk2:List S) (o n:Nat),vs = [.ref a1,.ref a2,.int o,.ref d]∧RowsAt H a1 (pairsB o bk1)∧RowsAt H a2 (pairsB o bk2)∧Bk bk1 o∧Bk bk2 o∧H d = some (.dT (encF F))∧Fst (pairsB o bk1) (pairsB o bk2) o n F∧n≤8 ∧
  ∀ d' R H',Same H H'→H d' = none→H' d' = some (.dT (encF R))→Fst (pairsB o bk1) (pairsB o bk2) o (n + 1) R→Q (.ref d') H'
theorem ok_next {f:Addr} {fd:FuncData} (F:Fun K "next_firsts" "next_firsts" sNext f fd) (B:Blt mg) (cEnd:Cal P w K mg base 1 "end_of" ["text", "order"] spEnd):FnOk P w K mg base CX0 2 f fd ["first_rows", "rows", "order", "firsts"] spNext:=by
  refine F.ok scNext (fun vs H Q E h=>?_) (fun cdv A outer s H vs Q E hr h=>?_)
  · obtain ⟨a1,a2,d,F,bk1,bk2,o,n,rfl,_⟩:=h; rfl
  · obtain ⟨a1,a2,d,FF,bk1,bk2,o,n,rfl,R1,R2,hb1,hb2,hd,hF,hn8,k⟩:=h
    have hu:=hu_of hr
    have nd:=scNext.nd
    refine ⟨_,pss_cons (ps_set (i:=4) nd rfl (Or.inl rfl) pe_dnewT)
      (pss_cons (ps_thawT (ps_for PassesOwn.never rfl (pi_itemsT (pe_bm0K K rfl PySem.F.plainAttrs_dict PySem.F.slot_dict_items PySem.F.type_dict_items mt_itemsT (pv 3)))
          (pg_tup rfl (pgs_cons (pg_name (i:=5) nd rfl (Or.inl rfl)) (pgs_cons (pg_name (i:=6) nd rfl (Or.inl rfl)) pgs_nil)))
          (pss_one (ps_thaw (ps_for PassesOwn.never rfl (pi_dict (pe_dget hu (pv 1) (pe_ix ix_tup (pv 5) pe_int (fun _ _=>rfl)) (fun _ _=>rfl))) (pg_name (i:=7) nd rfl (Or.inl rfl))
            (pss_one (ps_if (pt_cmpR op_ne (pv 7) pe_str (nomark _))
              (pss_cons (ps_set (i:=8) nd rfl (Or.inl rfl) (pe_and (pe_ix ix_tup (pv 5) pe_int (fun _ _=>rfl)) (pe_one (pe_cmp (pc_din hu (pv 7) (pe_dget hu (pv 0) (pe_ix ix_tup (pv 5) pe_int (fun _ _=>rfl)) (fun _ _=>rfl)))))))
              (pss_cons (ps_set (i:=9) nd rfl (Or.inl rfl) (pe_tup (pa_cons (pe_cal cEnd hr rfl (pa_cons (pe_op op_add_str (pv 6) (pv 7)) (pa_cons (pv 2) pa_nil))) (pa_cons (pv 8) pa_nil))))
              (pss_one (ps_dput hu (pv 4) (pv 9) (pe_callB (call_minS rfl) (by rfl) B.min PyProof.Rows.boot_min (pa_cons (pe_dget2 hu (pv 4) (pv 9) (pe_op op_add_str (pv 6) (pv 7)) ⟨rfl,rfl,rfl,rfl⟩) (pa_cons (pe_op op_add_str (pv 6) (pv 7)) pa_nil))) rfl))))
              pss_nil)))))))
      (pss_one (ps_ret (pv 4)))),?_⟩
    intro fo hfo
    have sH1:Same H (upd H fo (.dT [])):=Same.upd1 hfo
    have hd1:upd H fo (.dT []) d = some (.dT (encF FF)):=sH1 _ _ hd
    have hdfo:fo≠d:=(ne_of_none hd hfo).symm
    refine ⟨d,encF FF,hd1,?_⟩
    refine ⟨_,rfl,.inr (.inr (.inl ⟨rfl,.inr ⟨_,hd1⟩⟩)),d,encF FF,rfl,rfl,hd1,fun p hp=>?_⟩
    have hp0:H p = none:=sH1.free hp
    have hpfo:p≠fo:=fun z=>by subst z; rw [upd_same] at hp; cases hp
    have hpd:d≠p:=ne_of_none hd hp0
    have sH2:Same (upd H fo (.dT [])) (upd (upd H fo (.dT [])) p (VW p d)):=Same.upd1 hp
    refine ⟨p,d,encF FF,rfl,upd_same,sH2 _ _ hd1,fun ob=>?_⟩
    generalize hH3:upd (upd (upd H fo (.dT [])) p (VW p d)) d (.frz ob (.dT (encF FF))) = H3
    have s3:Same (upd H d (.frz ob (.dT (encF FF)))) H3:=fun b u e=>by
      rw [← hH3]
      by_cases hb:b = d
      · subst hb; rw [upd_same] at e ⊢; exact e
      · rw [upd_ne hb] at e ⊢
        exact sH2 _ _ (sH1 _ _ e)
    have hfo3:H3 fo = some (.dT (encF [])):=by
      rw [← hH3,upd_ne hdfo,upd_ne hpfo.symm,upd_same]; rfl
    have h0:bk2≠[]:=fun z=>by have:=hb2.lo; rw [z] at this; cases this
    have h01:bk1≠[]:=fun z=>by have:=hb1.lo; rw [z] at this; cases this
    have hfo0:upd H d (.frz ob (.dT (encF FF))) fo = none:=by rw [upd_ne hdfo]; exact hfo
    have get0:∀ b u,H b = some u→b≠d→upd H d (.frz ob (.dT (encF FF))) b = some u:=fun b u e hb=>by rw [upd_ne hb]; exact e
    have R10:RowsAt (upd H d (.frz ob (.dT (encF FF)))) a1 (pairsB o bk1):=by
      obtain ⟨ra,g1,g2,g3⟩:=R1
      exact ⟨ra,g1,get0 _ _ g2 (ne_of g2 hd (by simp)),fun r hr=>get0 _ _ (g3 r hr) (ne_of (g3 r hr) hd (by simp))⟩
    have R20:RowsAt (upd H d (.frz ob (.dT (encF FF)))) a2 (pairsB o bk2):=by
      obtain ⟨ra,g1,g2,g3⟩:=R2
      exact ⟨ra,g1,get0 _ _ g2 (ne_of g2 hd (by simp)),fun r hr=>get0 _ _ (g3 r hr) (ne_of (g3 r hr) hd (by simp))⟩
    refine for_itemsT (fun i σ H'=>(∃ x5 x6 x7 x8 x9:Option V,σ = [some (.ref a1),some (.ref a2),some (.int o),some (.ref d),some (.ref fo),x5,x6,x7,x8,x9])∧Same (upd H d (.frz ob (.dT (encF FF)))) H'∧∃ R,H' fo = some (.dT (encF R))∧FoldM ((FF.take i).flatMap (nextC (pairsB o bk1) (nxOf (pairsB o bk2)) o)) R)
      ⟨⟨_,_,_,_,_,rfl⟩,s3,[],hfo3,FoldM.nil⟩ (fun i σ H' _ h=>h.2.1 _ _ upd_same) ?_ ?_
    · rintro i q T b σ H' Nx hN hq ⟨⟨x5,x6,x7,x8,x9,rfl⟩,sm,R,hR,hC⟩ hT hb
      unfold encF at hq
      rw [List.getElem?_map] at hq
      cases ei:FF[i]? with
      | none=>rw [ei] at hq; cases hq
      | some pp0 =>
      rw [ei] at hq
      have hq2:q = (sk pp0.1,sv pp0.2):=(Option.some.inj hq).symm
      subst hq2
      have hmem:pp0∈FF:=List.mem_of_getElem? ei
      have hi:i < FF.length:=(List.getElem?_eq_some_iff.mp ei).1
      have etk:(FF.take (i + 1)).flatMap (nextC (pairsB o bk1) (nxOf (pairsB o bk2)) o) = (FF.take i).flatMap (nextC (pairsB o bk1) (nxOf (pairsB o bk2)) o) ++ nextC (pairsB o bk1) (nxOf (pairsB o bk2)) o pp0:=by
        rw [List.take_succ_eq_append_getElem hi,(List.getElem?_eq_some_iff.mp ei).2,List.flatMap_append]; simp
      have hCr:∀ c∈(FF.take i).flatMap (nextC (pairsB o bk1) (nxOf (pairsB o bk2)) o),∃ l,(c.1.1,l)∈pairsB o bk2:=fun c hc=>by
        obtain ⟨p1,hp1,hc1⟩:=List.mem_flatMap.mp hc
        obtain ⟨l,hl,rfl⟩:=List.mem_map.mp hc1
        obtain ⟨hl1,hl2⟩:=List.mem_filter.mp hl
        exact nextC_row hF (List.mem_of_mem_take hp1) hl1 (of_decide_eq_true hl2)
      generalize (FF.take i).flatMap (nextC (pairsB o bk1) (nxOf (pairsB o bk2)) o) = C0 at hC etk hCr
      obtain ⟨k1,k2,k3⟩:=hF.snd pp0 hmem
      have htl:pp0.2.length≤8:=by omega
      obtain ⟨l0,hl0⟩:=hF.rows h0 hmem
      have s4:Same H' (upd H' T (.tup [.ref b,sv pp0.2])):=Same.upd1 hT
      obtain ⟨kvs2,ra,g1,g2,g3⟩:=((R20.same sm).same s4).row hl0
      have hbT:upd H' T (.tup [.ref b,sv pp0.2]) b = some (.tup [sv pp0.1.1,.bl pp0.1.2]):=s4 _ _ hb
      have hR4:=s4 _ _ hR
      have sm4:=sm.trans s4
      have hfora:fo≠ra:=ne_of hR4 g3 (by simp)
      refine ⟨T,[.ref b,sv pp0.2],rfl,.of upd_same,rfl,_,_,rfl,_,_,rfl,rfl,?_⟩
      refine ⟨ra,rowV (rowOf (pairsB o bk2) pp0.1.1),g3,?_⟩
      have dg2:DGet (upd H' T (.tup [.ref b,sv pp0.2])) a2 (sv pp0.1.1) (some (.ref ra)):=by
        have:=DGet.k (k:=Sum.inr (tx pp0.1.1)) g1
        rw [g2] at this
        exact this
      refine ⟨_,rfl,_,rfl,b,_,0,sv pp0.1.1,rfl,rfl,.of hbT,rfl,a2,.ref ra,rfl,dg2,ra,_,rfl,g3,fun ob2=>?_⟩
      generalize hH4:upd H' T (.tup [.ref b,sv pp0.2]) = H4 at s4 g1 g3 hbT hR4 sm4
      have rda:RdAll H4 (upd H4 ra (.frz ob2 (.dK (rowV (rowOf (pairsB o bk2) pp0.1.1))))):=RdAll.frz g3
      have hrl:(rowV (rowOf (pairsB o bk2) pp0.1.1)).length < 1000:=by
        rw [encD_len]
        have h1:=nd_le (nxOf (pairsB o bk2) pp0.1.1) ((pairsB o bk2).map (·.2)) (rowOf_nd _ _) fun l hl=>List.mem_map.mpr ⟨_,(nxOf_mem _ _ _).mp hl,rfl⟩
        rw [List.length_map,List.length_map] at h1
        have:=pairs72 hb2
        omega
      have R14:=R10.same sm4
      generalize hH5:upd H4 ra (.frz ob2 (.dK (rowV (rowOf (pairsB o bk2) pp0.1.1)))) = H5 at rda
      have hra5:H5 ra = some (.frz ob2 (.dK (rowV (rowOf (pairsB o bk2) pp0.1.1)))):=by rw [← hH5,upd_same]
      have hb5:H5 b = some (.tup [sv pp0.1.1,.bl pp0.1.2]):=by
        rw [← hH5,upd_ne (ne_of hbT g3 (by simp))]; exact hbT
      have hbfo:b≠fo:=ne_of hbT hR4 (by simp)
      refine for_known (known_dict ra ob2 (rowV (rowOf (pairsB o bk2) pp0.1.1))) (fun j σ H6=>(∃ x7 x8 x9:Option V,σ = [some (.ref a1),some (.ref a2),some (.int o),some (.ref d),some (.ref fo),some (.ref b),some (sv pp0.2),x7,x8,x9])∧SameX fo H5 H6 ∧
          ∃ R',H6 fo = some (.dT (encF R'))∧FoldM (C0 ++ (((nxOf (pairsB o bk2) pp0.1.1).take j).filter fun l=>decide (l≠[])).map (cand (pairsB o bk1) o pp0)) R')
        ⟨⟨_,_,_,rfl⟩,SameX.refl _,R,?_,by simpa using hC⟩ (fun j σ H6 _ h=>h.2.1 _ _ hfora.symm hra5) ?_ ?_
      · rw [← hH5,upd_ne hfora]; exact hR4
      · rintro j x σ H6 Nx2 hN2 hx ⟨⟨x7,x8,x9,rfl⟩,sx,R',hR',hC'⟩
        have hx1:((nxOf (pairsB o bk2) pp0.1.1).map sv)[j]? = some x:=by
          rw [← hx]
          unfold rowV encD encK nxOf
          rw [List.map_map,List.map_map,List.map_map]
          rfl
        rw [List.getElem?_map] at hx1
        cases el:(nxOf (pairsB o bk2) pp0.1.1)[j]? with
        | none=>rw [el] at hx1; cases hx1
        | some l =>
        rw [el] at hx1
        have hx2:x = sv l:=(Option.some.inj hx1).symm
        subst hx2
        have hj:j < (nxOf (pairsB o bk2) pp0.1.1).length:=(List.getElem?_eq_some_iff.mp el).1
        have hlm:l∈nxOf (pairsB o bk2) pp0.1.1:=List.mem_of_getElem? el
        have hl1:l.length≤1:=pairB_one ((nxOf_mem _ _ _).mp hlm)
        have etk2:(nxOf (pairsB o bk2) pp0.1.1).take (j + 1) = (nxOf (pairsB o bk2) pp0.1.1).take j ++ [l]:=by
          rw [List.take_succ_eq_append_getElem hj,(List.getElem?_eq_some_iff.mp el).2]
        refine ⟨_,rfl,rfl,_,rfl,?_⟩
        by_cases hl:l = []
        · subst hl
          refine iteNS rfl (hN2 _ _ ⟨⟨_,_,_,rfl⟩,sx,R',hR',?_⟩)
          rw [etk2,List.filter_append]
          simpa using hC'
        · have hne:¬ V.str (tx l) = V.str "" := fun z=>hl (tx_inj (V.str.inj z))
          refine ite_nn hne ?_
          have hb6:H6 b = some (.tup [sv pp0.1.1,.bl pp0.1.2]):=sx _ _ hbfo hb5
          refine ⟨_,rfl,b,_,1,.bl pp0.1.2,rfl,rfl,.of hb6,rfl,pp0.1.2,rfl,?_⟩
          refine' (fun (cont:∀ q:V,q = .bl (pp0.1.2 && decide ((pp0.1.1,l)∈pairsB o bk1))→(_:V→Prop) q)=>?main) ?cont
          case main =>
            by_cases hh:pp0.1.2 = true
            · rw [if_pos hh]
              obtain ⟨l1,hl1'⟩:=hF.rows1 h01 hmem hh
              obtain ⟨kvs1,ra1,q1,q2,q3⟩:=R14.row hl1'
              have rd6:∀ c kv,H4 c = some (.dK kv)→Rd H6 c (.dK kv):=fun c kv e=>by
                have hc:c≠fo:=ne_of e hR4 (by simp)
                rcases rda c _ e with z | ⟨o',z⟩
                · exact .inl (sx _ _ hc z)
                · exact .inr ⟨o',sx _ _ hc z⟩
              have dg1:DGet H6 a1 (sv pp0.1.1) (some (.ref ra1)):=by
                have:=DGet.kR (k:=Sum.inr (tx pp0.1.1)) (rd6 _ _ q1)
                rw [q2] at this
                exact this
              refine ⟨_,rfl,_,rfl,_,rfl,b,_,0,sv pp0.1.1,rfl,rfl,.of hb6,rfl,a1,.ref ra1,rfl,dg1,ra1,_,rfl,DGet.kR (k:=Sum.inr (tx l)) (rd6 _ _ q3),?_⟩
              have ev:V.bl (valV (rowV (rowOf (pairsB o bk1) pp0.1.1)) (Sum.inr (tx l))).isSome = .bl (pp0.1.2 && decide ((pp0.1.1,l)∈pairsB o bk1)):=by
                rw [rowOf_has,hh,Bool.true_and]
              revert ev
              generalize V.bl (valV (rowV (rowOf (pairsB o bk1) pp0.1.1)) (Sum.inr (tx l))).isSome = q
              intro ev
              exact cont q ev
            · rw [if_neg hh]
              have ev:V.bl false = .bl (pp0.1.2 && decide ((pp0.1.1,l)∈pairsB o bk1)):=by
                have:pp0.1.2 = false:=by simpa using hh
                rw [this,Bool.false_and]
              revert ev
              generalize V.bl false = q
              intro ev
              exact cont q ev
          case cont =>
            intro q hq
            subst hq
            have hcl:(tx pp0.2).length + (tx l).length≤sizeLine:=by rw [tx_len,tx_len,sizeLine_eq]; omega
            have hll:(pp0.2 ++ l).length≤64:=by rw [List.length_append]; omega
            refine ⟨_,rfl,_,rfl,tx pp0.2,tx l,rfl,rfl,hcl,_,rfl,pp0.2 ++ l,o,by rw [tx_app]; rfl,hb1.o1,hll,_,rfl,by show 2≤sizeLine; decide,fun pr hpr=>?_⟩
            have sx7:SameX fo H5 (upd H6 pr (.tup [sv (endOf (pp0.2 ++ l) o),.bl (pp0.1.2 && decide ((pp0.1.1,l)∈pairsB o bk1))])):=sx.upd1 hpr
            have hR7:upd H6 pr (.tup [sv (endOf (pp0.2 ++ l) o),.bl (pp0.1.2 && decide ((pp0.1.1,l)∈pairsB o bk1))]) fo = some (.dT (encF R')):=by
              rw [upd_ne (ne_of_none hR' hpr)]; exact hR'
            have hpr7:upd H6 pr (.tup [sv (endOf (pp0.2 ++ l) o),.bl (pp0.1.2 && decide ((pp0.1.1,l)∈pairsB o bk1))]) pr = some (.tup ((sk (cand (pairsB o bk1) o pp0 l).1).map tkV)):=upd_same
            generalize upd H6 pr (.tup [sv (endOf (pp0.2 ++ l) o),.bl (pp0.1.2 && decide ((pp0.1.1,l)∈pairsB o bk1))]) = H7 at sx7 hR7 hpr7
            have hRl:R'.length≤2 * (pairsB o bk2).length:=states_le hC'.nd fun c hc=>by
              rcases List.mem_append.mp (hC'.snd c hc) with z | z
              · exact hCr c z
              · obtain ⟨l',hl',rfl⟩:=List.mem_map.mp z
                obtain ⟨z1,z2⟩:=List.mem_filter.mp hl'
                exact nextC_row hF hmem (List.mem_of_mem_take z1) (of_decide_eq_true z2)
            have h72:=pairs72 hb2
            refine ⟨_,rfl,fo,rfl,.inr ⟨_,.inl hR7⟩,_,rfl,_,rfl,_,rfl,tx pp0.2,tx l,rfl,rfl,hcl,_,DGet.t hR7 hpr7,_,rfl,_,rfl,tx pp0.2,tx l,rfl,rfl,hcl,tx ((getA R' (cand (pairsB o bk1) o pp0 l).1).getD (pp0.2 ++ l)),tx (pp0.2 ++ l),?_,_,rfl,_,rfl,fo,_,rfl,DPut.t hR7 hpr7 (by rw [encF_len,sizeLine_eq]; omega),?_⟩
            · rw [val_encF,tx_app]
              cases getA R' (cand (pairsB o bk1) o pp0 l).1 <;> rfl
            · rw [tx_min]
              have eput:=put_encF R' (cand (pairsB o bk1) o pp0 l).1 (min2 ((getA R' (cand (pairsB o bk1) o pp0 l).1).getD (pp0.2 ++ l)) (pp0.2 ++ l)) hC'.nd
              refine hN2 _ _ ⟨⟨_,_,_,rfl⟩,sx7.updf,putM R' (cand (pairsB o bk1) o pp0 l),?_,?_⟩
              · rw [upd_same]
                exact congrArg (fun z=>some (HO.dT z)) eput
              · rw [etk2,List.filter_append,List.map_append,← List.append_assoc]
                have e1:(List.filter (fun l=>decide (l≠[])) [l]).map (cand (pairsB o bk1) o pp0) = [cand (pairsB o bk1) o pp0 l]:=by simp [hl]
                rw [e1]
                exact hC'.snoc _
      · rintro σ H6 ⟨⟨x7,x8,x9,rfl⟩,sx,R',hR',hC'⟩
        refine ⟨ob2,sx _ _ hfora.symm hra5,hN _ _ ⟨⟨_,_,_,_,_,rfl⟩,fun c u e=>?_,R',?_,?_⟩⟩
        · have hcf:c≠fo:=fun z=>by rw [z,hfo0] at e; cases e
          have e4:=sm4 _ _ e
          by_cases hc:c = ra
          · subst hc
            rw [upd_same,← e4,g3]
          · rw [upd_ne hc]
            refine sx _ _ hcf ?_
            rw [← hH5,upd_ne hc]; exact e4
        · rw [upd_ne hfora]; exact hR'
        · rw [etk]
          have e1:(List.map (fun p=>kV p.1) (rowV (rowOf (pairsB o bk2) pp0.1.1))).length = (nxOf (pairsB o bk2) pp0.1.1).length:=by rw [List.length_map,encD_len,List.length_map]
          rw [e1,List.take_length] at hC'
          exact hC'
    · rintro σ H' ⟨⟨x5,x6,x7,x8,x9,rfl⟩,sm,R,hR,hC⟩
      refine ⟨ob,sm _ _ upd_same,_,rfl,?_⟩
      have sfin:Same H (upd H' d (.dT (encF FF))):=Same.thawT sm hd
      refine k fo R _ sfin hfo (by rw [upd_ne hdfo]; exact hR) (hF.step (nx:=nxOf (pairsB o bk2)) (fun e l=>nxOf_mem _ e l) (ones_B o bk2) ?_)
      rw [encF_len,List.take_length] at hC
      exact hC
end
end Kn
end
section
set_option Elab.async false
set_option linter.all false
set_option maxRecDepth 100000
set_option maxHeartbeats 1000000
namespace Kn
open PySem L2
section
variable {P:Program} {w:World} {K:PySem.W.Frag} {mg:Str→Option Value} {base:Heap}
abbrev sAlone:Stmt:=top 39
theorem scAlone:FnScope ["first_rows", "rows", "state"] ["first_rows", "rows", "state"] (defScope sAlone):=⟨rfl,rfl,rfl,by decide +kernel,rfl,by decide +kernel,by decide +kernel⟩
def spAlone:Sp:=fun vs H Q _=>∃ (a1 a2 b:Addr) (k:S × Bool) (ps1 ps2:List (S × S)),vs = [.ref a1,.ref a2,.ref b]∧RowsAt H a1 ps1∧RowsAt H a2 ps2∧H b = some (.tup [sv k.1,.bl k.2])∧(∃ l,(k.1,l)∈ps2)∧(k.2 = true→∃ l,(k.1,l)∈ps1)∧Q (.bl (alone ps1 ps2 k)) H
theorem ok_alone {f:Addr} {fd:FuncData} (F:Fun K "ends_by_rows_alone" "ends_by_rows_alone" sAlone f fd):FnOk P w K mg base CX0 1 f fd ["first_rows", "rows", "state"] spAlone:=by
  refine F.ok scAlone (fun vs H Q E h=>?_) (fun cdv A outer s H vs Q E hr h=>?_)
  · obtain ⟨a1,a2,b,k,ps1,ps2,rfl,_⟩:=h; rfl
  · obtain ⟨a1,a2,b,k,ps1,ps2,rfl,R1,R2,hb,⟨l2,hl2⟩,hl1,q⟩:=h
    have hu:=hu_of hr
    refine ⟨_,pss_one (ps_ret (pe_and (pe_cmp (pc_din hu pe_str (pe_dget hu (pv 1) (pe_ix ix_tup (pv 2) pe_int (fun _ _=>rfl)) (fun _ _=>rfl))))
      (pe_one (pe_not (pe_and (pe_ix ix_tup (pv 2) pe_int (fun _ _=>rfl)) (pe_one (pe_cmp (pc_din hu pe_str (pe_dget hu (pv 0) (pe_ix ix_tup (pv 2) pe_int (fun _ _=>rfl)) (fun _ _=>rfl)))))))))),?_⟩
    obtain ⟨kvs2,ra2,g1,g2,g3⟩:=R2.row hl2
    have dg2:DGet H a2 (sv k.1) (some (.ref ra2)):=by
      have:=DGet.k (k:=Sum.inr (tx k.1)) g1
      rw [g2] at this
      exact this
    refine ⟨_,rfl,_,rfl,b,_,0,sv k.1,rfl,rfl,.of hb,rfl,a2,.ref ra2,rfl,dg2,ra2,_,rfl,DGet.k (k:=Sum.inr (tx [])) g3,_,rfl,?_⟩
    rw [rowOf_has]
    unfold alone at q
    by_cases c2:(k.1,([]:S))∈ps2
    · rw [if_pos (decide_eq_true c2)]
      rw [decide_eq_true c2,Bool.true_and] at q
      refine ⟨_,rfl,b,_,1,.bl k.2,rfl,rfl,.of hb,rfl,k.2,rfl,?_⟩
      by_cases hh:k.2 = true
      · rw [if_pos hh]
        obtain ⟨l1,hl1'⟩:=hl1 hh
        obtain ⟨kvs1,ra1,q1,q2,q3⟩:=R1.row hl1'
        have dg1:DGet H a1 (sv k.1) (some (.ref ra1)):=by
          have:=DGet.k (k:=Sum.inr (tx k.1)) q1
          rw [q2] at this
          exact this
        refine ⟨_,rfl,_,rfl,b,_,0,sv k.1,rfl,rfl,.of hb,rfl,a1,.ref ra1,rfl,dg1,ra1,_,rfl,DGet.k (k:=Sum.inr (tx [])) q3,_,rfl,?_⟩
        rw [rowOf_has]
        rw [hh,Bool.true_and] at q
        exact q
      · rw [if_neg hh]
        have hf:k.2 = false:=by simpa using hh
        rw [hf] at q
        exact ⟨_,rfl,q⟩
    · rw [if_neg (by simpa using c2)]
      rw [decide_eq_false c2] at q
      exact q
theorem ite_b {b:Bool} {A B:Prop} (c:b = true) (h:A):if b = true then A else B:=by rw [if_pos c]; exact h
theorem ite_nb {b:Bool} {A B:Prop} (c:¬ b = true) (h:B):if b = true then A else B:=by rw [if_neg c]; exact h
theorem pair_let {o:Nat} {bk:List S} {e:S} {c:Nat} (h:(e,[c])∈pairsB o bk):∃ nm∈bk,c∈nm:=by
  obtain ⟨nm,hn,hp⟩:=List.mem_flatMap.mp h
  unfold pairs1 at hp
  obtain ⟨p,_,e1⟩:=List.mem_map.mp hp
  have e3:(nm.drop p).take 1 = [c]:=congrArg Prod.snd e1
  refine ⟨nm,hn,List.mem_of_mem_drop (i:=p) (List.mem_of_mem_take (i:=1) ?_)⟩
  rw [e3]; exact List.mem_singleton_self _
theorem go_let {o:Nat} {bk:List S}:∀ (n:Nat) (t:S),t.length = n→Go (pairsB o bk) o t→∀ c∈t,∃ nm∈bk,c∈nm
  | 0,t,ht,_,c,hc=>by rw [List.length_eq_zero_iff.mp ht] at hc; cases hc
  | n + 1,t,ht,hg,c,hc=>by
    obtain ⟨u,x,rfl⟩:=snoc_of (t:=t) (fun z=>by rw [z] at ht; cases ht)
    obtain ⟨g1,g2⟩:=go_snoc.mp hg
    rw [List.length_append,List.length_singleton] at ht
    rcases List.mem_append.mp hc with z | z
    · exact go_let n u (by omega) g1 c z
    · have:c = x:=by simpa using z
      subst this
      exact pair_let g2
theorem go_small {o:Nat} {bk:List S} (hb:isBk bk) {t:S} (hg:Go (pairsB o bk) o t):∀ c∈t,97≤c∧c≤122:=fun c hc=>by
  obtain ⟨nm,h1,h2⟩:=go_let t.length t rfl hg c hc
  have:=(hb.nm nm h1).2.2 c h2
  simpa using this
theorem str_lay {t:S} (h:∀ c∈t,c≤122):(PyData.str (tx t)).canLay0 = true∧(PyData.str (tx t)).depth≤10:=by
  have ok:PyData.strOk (tx t) = true:=by
    unfold PyData.strOk
    rw [Array.all_eq_true']
    intro c hc
    have hc':c∈t:=by simpa [tx] using hc
    have:=h c hc'
    exact decide_eq_true (by omega)
  exact ⟨by simp only [PyData.canLay0,ok],by simp [PyData.depth]⟩
theorem strs_shaped {l:List S} (h:∀ t∈l,∀ c∈t,c≤122):SeqAt.shaped (.list (l.map fun t=>PyData.str (tx t))) = true:=by
  refine (shaped_list fun d hd=>?_).1
  obtain ⟨t,ht,rfl⟩:=List.mem_map.mp hd
  exact str_lay (h t ht)
theorem RowsAt.frzT {H:Hp} {a d:Addr} {ps:List (S × S)} {F:List (List TKey × V)} {ob:Obj} (R:RowsAt H a ps) (hd:H d = some (.dT F)):RowsAt (upd H d (.frz ob (.dT F))) a ps:=by
  obtain ⟨ra,g1,g2,g3⟩:=R
  exact ⟨ra,g1,by rw [upd_ne (ne_of g2 hd (by simp))]; exact g2,fun r hr=>by rw [upd_ne (ne_of (g3 r hr) hd (by simp))]; exact g3 r hr⟩
theorem names_take {ps1 ps2:List (S × S)} {F:List St2} {j:Nat} {p:St2} (e:F[j]? = some p):namesOf ps1 ps2 (F.take (j + 1)) = namesOf ps1 ps2 (F.take j) ++ if alone ps1 ps2 p.1 = true then [p.2] else []:=by
  unfold namesOf
  rw [List.take_succ_eq_append_getElem (List.getElem?_eq_some_iff.mp e).1,(List.getElem?_eq_some_iff.mp e).2,List.filter_append,List.map_append]
  congr 1
  by_cases c:alone ps1 ps2 p.1 = true <;> simp [c]
def optS:Option S→V
  | none=>.non
  | some t=>sv t
abbrev sLack:Stmt:=top 40
theorem scLack:FnScope ["one", "other", "order", "first_rows", "rows", "firsts", "length", "names"] ["one", "other", "order"] (defScope sLack):=⟨rfl,rfl,rfl,by decide +kernel,rfl,by decide +kernel,by decide +kernel⟩
theorem ndLk:(["first_rows", "rows", "state", "name"]:List Str).Nodup:=by decide +kernel
def spLackR (nb no:Addr):Sp:=fun vs H Q E=>∃ (v u x:V) (d e g:PyData),vs = [v,u,x]∧Thg H d v∧Thg H e u∧Thg H g x∧sml d = true∧sml e = true∧sml g = true ∧
  (isBookD d = false→∀ H',Same H H'→E (.ref nb) none H')∧(isBookD d = true→isBookD e = false→∀ H',Same H H'→E (.ref nb) none H')∧(isBookD d = true→isBookD e = true→isOrderD g = false→∀ H',Same H H'→E (.ref no) none H') ∧
  (∀ (a b:Addr) (bk1 bk2:List S) (o:Nat),v = .ref a→u = .ref b→x = .int o→H a = some (.tup (bkV bk1))→H b = some (.tup (bkV bk2))→Bk bk1 o→Bk bk2 o→∀ r H',IsLack (pairsB o bk1) (pairsB o bk2) o r→Same H H'→Q (optS r) H')
theorem ok_lack {f:Addr} {fd:FuncData} {nb no:Addr} (F:Fun K "lacking" "lacking" sLack f fd) (B:Blt mg) (C:Cst K mg) (cNB:CalR P w K mg base 3 "need_book" ["thing"] (spRef nb isBookD)) (cNO:CalR P w K mg base 3 "need_order" ["thing"] (spRef no isOrderD)) (cRows:Cal P w K mg base 3 "counted_rows" ["book", "order"] spRows)
    (cN:Cal P w K mg base 2 "next_firsts" ["first_rows", "rows", "order", "firsts"] spNext) (cA:Cal P w K mg base 1 "ends_by_rows_alone" ["first_rows", "rows", "state"] spAlone):FnOk P w K mg base (CXr P w) 4 f fd ["one", "other", "order"] (spLackR nb no):=by
  refine F.okR scLack (fun vs H Q E h=>?_) (fun cdv A outer s H vs Q E hr h ok=>?_)
  · obtain ⟨v,u,x,d,e,g,rfl,_⟩:=h; rfl
  · obtain ⟨v,u,x,d,e,g,rfl,tv,tu,tx',sd,se,sg,kb,kb2,ko,kg⟩:=h
    have hu:=hr.units
    have hr2:=hr.mono (j:=2) (by decide)
    have hr1:=hr.mono (j:=1) (by decide)
    obtain ⟨tml,hml⟩:=C.ml
    have nd:=scLack.nd
    refine ⟨_,pss_cons (ps_expr (pe_calR cNB ok.pass hr rfl (pa_cons (pv 0) pa_nil))) (pss_cons (ps_expr (pe_calR cNB ok.pass hr rfl (pa_cons (pv 1) pa_nil))) (pss_cons (ps_expr (pe_calR cNO ok.pass hr rfl (pa_cons (pv 2) pa_nil)))
      (pss_cons (ps_set (i:=3) nd rfl (Or.inr rfl) (pe_cal cRows hr rfl (pa_cons (pv 0) (pa_cons (pv 2) pa_nil))))
      (pss_cons (ps_set (i:=4) nd rfl (Or.inr rfl) (pe_cal cRows hr rfl (pa_cons (pv 1) (pa_cons (pv 2) pa_nil))))
      (pss_cons (ps_set (i:=5) nd rfl (Or.inl rfl) (pe_dispT (Nat.lt_of_le_of_lt (Nat.le_add_right _ _) hu) (pe_tup (pa_cons pe_str (pa_cons pe_bl pa_nil))) pe_str))
      (pss_cons (ps_for PassesOwn.leaving rfl (pi_range2 rfl B.range (pa_cons pe_int (pa_cons (pe_op op_add (pe_glob (v:=.int 8) (by rfl) hml ⟨tml,rfl⟩) pe_int) pa_nil))) (pg_name (i:=6) nd rfl (Or.inl rfl))
        (pss_cons (ps_set (i:=5) nd rfl (Or.inl rfl) (pe_cal cN hr2 rfl (pa_cons (pv 3) (pa_cons (pv 4) (pa_cons (pv 2) (pa_cons (pv 5) pa_nil))))))
        (pss_cons (ps_thawT (ps_setC (j:=7) (N:=["first_rows", "rows", "state", "name"]) (caps:=[3,4]) nd rfl (Or.inl rfl) rfl (compScope_of (by kernel_rfl)) (pi_itemsT (pe_bm0K K rfl PySem.F.plainAttrs_dict PySem.F.slot_dict_items PySem.F.type_dict_items mt_itemsT (pv 5)))
            (fun cl C s H ex=>pg_tupK K 2 rfl rfl (pgs_cons (pg_name (i:=2) ndLk rfl (Or.inl rfl)) (pgs_cons (pg_name (i:=3) ndLk rfl (Or.inl rfl)) pgs_nil)) rfl rfl)
            (fun cl C s H ex=>pf_one (pt_val (pe_cal cA hr1 rfl (pa_cons (pv 0) (pa_cons (pv 1) (pa_cons (pv 2) pa_nil))))))
            (fun cl C s H ex=>pv 3)))
        (pss_one (ps_if (pt_cmpR (op_neD hu) (pv 7) (pe_lst pa_nil) (nomark _)) (pss_one (ps_ret (pe_callB (call_minL rfl) (by rfl) B.min PyProof.Rows.boot_min (pa_cons (pv 7) pa_nil)))) pss_nil)))))
      (pss_one (ps_ret pe_non)))))))),?_⟩
    refine ⟨_,rfl,v,d,rfl,tv,sd,fun gd H1 s1=>?_,fun bad H1 s1=>kb bad H1 s1⟩
    refine ⟨_,rfl,u,e,rfl,Thg.same s1 _ _ tu,se,fun ge H2 s2=>?_,fun bad H2 s2=>kb2 gd bad H2 (s1.trans s2)⟩
    refine ⟨_,rfl,x,g,rfl,Thg.same (s1.trans s2) _ _ tx',sg,fun gg H3 s3=>?_,fun bad H3 s3=>ko gd ge bad H3 ((s1.trans s2).trans s3)⟩
    have s03:=(s1.trans s2).trans s3
    obtain ⟨a,bk1,rfl,ha,hbk1,rfl⟩:=thg_book tv gd
    obtain ⟨b,bk2,rfl,hb,hbk2,rfl⟩:=thg_book tu ge
    obtain ⟨o,rfl,ho1,ho3⟩:=thg_order tx' gg
    have hb1:Bk bk1 o:=⟨hbk1,ho1,ho3⟩
    have hb2:Bk bk2 o:=⟨hbk2,ho1,ho3⟩
    have h0:bk2≠[]:=fun z=>by have:=hb2.lo; rw [z] at this; cases this
    have h01:bk1≠[]:=fun z=>by have:=hb1.lo; rw [z] at this; cases this
    have k:=kg a b bk1 bk2 o rfl rfl rfl ha hb hb1 hb2
    refine ⟨_,rfl,_,rfl,a,bk1,o,rfl,s03 _ _ ha,hb1.hi,hb1.l8,ho1,fun r1 H4 s4 hr1' R1=>?_⟩
    have s04:=s03.trans s4
    refine ⟨_,rfl,_,rfl,b,bk2,o,rfl,s04 _ _ hb,hb2.hi,hb2.l8,ho1,fun r2 H5 s5 hr2' R2=>?_⟩
    have s05:=s04.trans s5
    have R15:=R1.same s5
    intro fo hfo
    refine ⟨by show 2≤sizeLine; decide,fun pt hpt=>?_⟩
    have hfp:fo≠pt:=fun z=>by subst z; rw [upd_same] at hpt; cases hpt
    have u6:Same H5 (upd (upd H5 fo (.dT [])) pt (.tup [.str "",.bl true])):=(Same.upd1 hfo).trans (Same.upd1 hpt)
    refine ⟨by rw [upd_ne hfp,upd_same],pt,sk ([],true),rfl,upd_same,?_⟩
    have s6:Same H5 (upd (upd (upd H5 fo (.dT [])) pt (.tup [.str "",.bl true])) fo (.dT [(sk ([],true),.str "")])):=u6.upd_new hfo
    have hf6:upd (upd (upd H5 fo (.dT [])) pt (.tup [.str "",.bl true])) fo (.dT [(sk ([],true),.str "")]) fo = some (.dT (encF [(([],true),[])])):=upd_same
    generalize upd (upd (upd H5 fo (.dT [])) pt (.tup [.str "",.bl true])) fo (.dT [(sk ([],true),.str "")]) = H6 at s6 hf6
    refine ⟨8,1,rfl,rfl,1,9,rfl,by decide,?_⟩
    refine for_known (known_range 1 8) (fun i σ H'=>(∃ (x6 x7:Option V) (fi:Addr) (FF:List St2),σ = [some (.ref a),some (.ref b),some (.int o),some (.ref r1),some (.ref r2),some (.ref fi),x6,x7]∧H' fi = some (.dT (encF FF))∧Fst (pairsB o bk1) (pairsB o bk2) o i FF)∧Same H5 H'∧∀ m,1≤m→m≤i→NoLost (pairsB o bk1) (pairsB o bk2) o m)
      ⟨⟨_,_,fo,_,rfl,hf6,Fst.start _ _ _⟩,s6,fun m h1 h2=>by omega⟩ (fun _ _ _ _ _=>trivial) ?_ ?_
    · rintro i x σ H' Nx hN hx ⟨⟨x6,x7,fi,FF,rfl,hfi,hF⟩,sm,hno⟩
      have hi:i < 8:=by
        have:=(List.getElem?_eq_some_iff.mp hx).1
        simpa using this
      refine ⟨_,rfl,_,rfl,_,rfl,_,rfl,r1,r2,fi,FF,bk1,bk2,o,i,rfl,R15.same sm,R2.same sm,hb1,hb2,hfi,hF,by omega,fun d' R H7 s7 hd' hR' hF'=>?_⟩
      refine ⟨d',encF R,hR',?_⟩
      refine ⟨_,rfl,.inr (.inr (.inl ⟨rfl,.inr ⟨_,hR'⟩⟩)),d',encF R,rfl,rfl,hR',fun p hp=>?_⟩
      have s8:Same H7 (upd H7 p (VW p d')):=Same.upd1 hp
      have hd8:=s8 _ _ hR'
      refine ⟨p,d',encF R,rfl,upd_same,hd8,fun ob=>?_⟩
      have R18:=((R15.same (sm.trans s7)).same s8).frzT (ob:=ob) hd8
      have R28:=((R2.same (sm.trans s7)).same s8).frzT (ob:=ob) hd8
      have hd9:upd (upd H7 p (VW p d')) d' (.frz ob (.dT (encF R))) d' = some (.frz ob (.dT (encF R))):=upd_same
      have back:∀ H9,Same (upd (upd H7 p (VW p d')) d' (.frz ob (.dT (encF R)))) H9→Same H7 (upd H9 d' (.dT (encF R))):=fun H9 s9=>s8.trans (Same.thawT s9 hd8)
      generalize upd (upd H7 p (VW p d')) d' (.frz ob (.dT (encF R))) = H8 at R18 R28 hd9 back
      refine comp_itemsT [some (.ref r1),some (.ref r2)] 2 (by rw [encF_len]; exact hF'.few hb2) (fun j acc H9=>Same H8 H9∧acc = (namesOf (pairsB o bk1) (pairsB o bk2) (R.take j)).map sv) ⟨Same.refl _,rfl⟩ (fun j acc H9 _ h=>⟨h.1 _ _ hd9,?_⟩) ?_ ?_
      · rw [h.2,List.length_map]
        unfold namesOf
        rw [List.length_map]
        have h1:=List.length_filter_le (fun p:St2=>alone (pairsB o bk1) (pairsB o bk2) p.1) (R.take j)
        rw [List.length_take] at h1
        omega
      · rintro j q T b' acc H9 ys Nx2 hN2 hq hy ⟨s9,rfl⟩ hT hb'
        obtain ⟨y1,y2,rfl⟩:=ys2 hy
        unfold encF at hq
        rw [List.getElem?_map] at hq
        cases ej:R[j]? with
        | none=>rw [ej] at hq; cases hq
        | some pp0 =>
        rw [ej] at hq
        have hq2:q = (sk pp0.1,sv pp0.2):=(Option.some.inj hq).symm
        subst hq2
        have hmem:pp0∈R:=List.mem_of_getElem? ej
        have t10:Same H9 (upd H9 T (.tup [.ref b',sv pp0.2])):=Same.upd1 hT
        refine ⟨T,[.ref b',sv pp0.2],rfl,.of upd_same,rfl,_,_,rfl,_,_,rfl,rfl,?_⟩
        refine ⟨_,rfl,_,rfl,_,rfl,r1,r2,b',pp0.1,_,_,rfl,R18.same (s9.trans t10),R28.same (s9.trans t10),t10 _ _ hb',hF'.rows h0 hmem,fun hh=>hF'.rows1 h01 hmem hh,_,rfl,?_⟩
        by_cases c:alone (pairsB o bk1) (pairsB o bk2) pp0.1 = true
        · refine ite_b c ?_
          refine ⟨_,rfl,hN2 _ _ [some (.ref b'),some (sv pp0.2)] rfl ⟨s9.trans t10,?_⟩⟩
          rw [names_take ej,if_pos c,List.map_append]; rfl
        · refine ite_nb c ?_
          refine hN2 _ _ [some (.ref b'),some (sv pp0.2)] rfl ⟨s9.trans t10,?_⟩
          rw [names_take ej,if_neg c,List.append_nil]
      · rintro acc H9 ⟨s9,rfl⟩ D hD
        rw [encF_len,List.take_length]
        have s10:Same H9 (upd H9 D (.lst ((namesOf (pairsB o bk1) (pairsB o bk2) R).map sv))):=Same.upd1 hD
        refine ⟨ob,s10 _ _ (s9 _ _ hd9),?_⟩
        have s11:=back _ (s9.trans s10)
        have hDd:D≠d':=(ne_of_none (s9 _ _ hd9) hD).symm
        have hD11:upd (upd H9 D (.lst ((namesOf (pairsB o bk1) (pairsB o bk2) R).map sv))) d' (.dT (encF R)) D = some (.lst ((namesOf (pairsB o bk1) (pairsB o bk2) R).map sv)):=by rw [upd_ne hDd,upd_same]
        have hd11:upd (upd H9 D (.lst ((namesOf (pairsB o bk1) (pairsB o bk2) R).map sv))) d' (.dT (encF R)) d' = some (.dT (encF R)):=upd_same
        generalize upd (upd H9 D (.lst ((namesOf (pairsB o bk1) (pairsB o bk2) R).map sv))) d' (.dT (encF R)) = H11 at s11 hD11 hd11
        have s12:=(sm.trans s7).trans s11
        refine ⟨_,rfl,by show 0≤sizeLine; decide,fun e1 he1=>?_⟩
        have t1:Same H11 (upd H11 e1 (.lst [])):=Same.upd1 he1
        have shp:SeqAt.shaped (.list ((namesOf (pairsB o bk1) (pairsB o bk2) R).map fun t=>PyData.str (tx t))) = true:=strs_shaped fun t ht c hc=>by
          obtain ⟨p1,hp1,rfl⟩:=List.mem_map.mp ht
          exact (go_small hb2.toisBk (hF'.snd p1 (List.mem_filter.mp hp1).1).2.1 c hc).2
        refine ⟨.list ((namesOf (pairsB o bk1) (pairsB o bk2) R).map fun t=>PyData.str (tx t)),.list [],Thg.rep _ _ ⟨D,_,rfl,t1 _ _ hD11,Thgs.strs _⟩,⟨e1,[],rfl,.of upd_same,rfl⟩,shp,rfl,_,rfl,?_⟩
        cases en:namesOf (pairsB o bk1) (pairsB o bk2) R with
        | nil =>
          refine iteF (hN _ _ ⟨⟨_,_,d',R,rfl,t1 _ _ hd11,hF'⟩,s12.trans t1,fun m h1 h2=>?_⟩)
          by_cases e:m = i + 1
          · subst e; exact names_none hF' en
          · exact hno m h1 (by omega)
        | cons n0 ns =>
          have hcons:∀ {A B:Prop},A→if (if true = true then !PyData.eqv (.list ((n0 :: ns).map fun t=>PyData.str (tx t))) (.list []) else PyData.eqv (.list ((n0 :: ns).map fun t=>PyData.str (tx t))) (.list [])) = true then A else B:=fun {A B} ha=>by
            have:PyData.eqv (.list ((n0 :: ns).map fun t=>PyData.str (tx t))) (.list []) = false:=rfl
            rw [this]; exact ha
          refine hcons ⟨_,rfl,D,(n0 :: ns).map tx,rfl,?_,by simp,fun t ht hmin=>?_⟩
          · rw [List.map_map]
            rw [en] at hD11
            exact .of (t1 _ _ hD11)
          · obtain ⟨t',ht',rfl⟩:=List.mem_map.mp ht
            refine k (some t') _ (names_some hF' (by omega) (by omega) (fun m h1 h2=>hno m h1 (by omega)) (by rw [en]; exact ht') fun u hu=>?_) ((s05.trans s12).trans t1)
            have:=hmin (tx u) (List.mem_map.mpr ⟨u,by rw [en] at hu; exact hu,rfl⟩)
            rw [tx_cps,tx_cps] at this
            exact this
    · rintro σ H' ⟨⟨x6,x7,fi,FF,rfl,hfi,hF⟩,sm,hno⟩
      have hno':∀ m,1≤m→m≤8→NoLost (pairsB o bk1) (pairsB o bk2) o m:=by simpa using hno
      exact k none _ (lack_none hno') (s05.trans sm)
end
end Kn
end
section
set_option Elab.async false
set_option linter.all false
set_option maxRecDepth 100000
set_option maxHeartbeats 1000000
namespace L2
open PySem PySem.Spec PyProof.Rows
section
open MyS PySem.W
variable {X:Cx}
end
end L2
end
section
set_option Elab.async false
set_option linter.all false
set_option maxRecDepth 100000
set_option maxHeartbeats 1000000
namespace Kn
open PySem L2
theorem sml_names {bk:List S} (h:∀ x∈bk,isNm x) (hl:bk.length≤900):sml (.tuple (bk.map fun x=>PyData.str (tx x))) = true:=by
  have go:∀ l:List S,(∀ x∈l,isNm x)→smls (l.map fun x=>PyData.str (tx x)) = true:=by
    intro l
    induction l with
    | nil=>intro _; rfl
    | cons x l ih =>
      intro hx
      have hn:=hx x (List.mem_cons_self ..)
      have h2:=ih fun y hy=>hx y (List.mem_cons_of_mem _ hy)
      rw [List.map_cons]
      simp only [smls,sml,h2,Bool.and_true,Bool.and_eq_true,decide_eq_true_eq,List.all_eq_true,tx_len,tx_cps]
      refine ⟨by have:=hn.2.1; omega,fun c hc=>?_⟩
      have:=hn.2.2 c hc
      have h3:97≤c∧c≤122:=by simpa using this
      omega
  simp only [sml,go bk h,Bool.and_true,decide_eq_true_eq,List.length_map]
  exact hl
section
variable {P:Program} {w:World} {K:PySem.W.Frag} {mg:Str→Option Value} {base:Heap}
abbrev sAllM:Stmt:=top 41
theorem scAllM:FnScope ["one", "other", "order"] ["one", "other", "order"] (defScope sAllM):=⟨rfl,rfl,rfl,by decide +kernel,rfl,by decide +kernel,by decide +kernel⟩
def spAllR (nb no:Addr):Sp:=fun vs H Q E=>∃ (v u x:V) (d e g:PyData),vs = [v,u,x]∧Thg H d v∧Thg H e u∧Thg H g x∧sml d = true∧sml e = true∧sml g = true ∧
  (isBookD d = false→∀ H',Same H H'→E (.ref nb) none H')∧(isBookD d = true→isBookD e = false→∀ H',Same H H'→E (.ref nb) none H')∧(isBookD d = true→isBookD e = true→isOrderD g = false→∀ H',Same H H'→E (.ref no) none H') ∧
  (∀ (a b:Addr) (bk1 bk2:List S) (o:Nat),v = .ref a→u = .ref b→x = .int o→H a = some (.tup (bkV bk1))→H b = some (.tup (bkV bk2))→Bk bk1 o→Bk bk2 o→∀ r H',IsLack (pairsB o bk1) (pairsB o bk2) o r→Same H H'→Q (.bl r.isNone) H')
theorem ok_allM {f:Addr} {fd:FuncData} {nb no:Addr} (F:Fun K "makes_all" "makes_all" sAllM f fd) (cL:CalR P w K mg base 4 "lacking" ["one", "other", "order"] (spLackR nb no)):FnOk P w K mg base (CXr P w) 5 f fd ["one", "other", "order"] (spAllR nb no):=by
  refine F.okR scAllM (fun vs H Q E h=>?_) (fun cdv A outer s H vs Q E hr h ok=>?_)
  · obtain ⟨v,u,x,d,e,g,rfl,_⟩:=h; rfl
  · obtain ⟨v,u,x,d,e,g,rfl,tv,tu,tx',sd,se,sg,kb,kb2,ko,kg⟩:=h
    refine ⟨_,pss_one (ps_ret (pe_cmp (pc_isN (pe_calR cL ok.pass hr rfl (pa_cons (pv 0) (pa_cons (pv 1) (pa_cons (pv 2) pa_nil))))))),?_⟩
    refine ⟨_,rfl,_,rfl,_,rfl,v,u,x,d,e,g,rfl,tv,tu,tx',sd,se,sg,kb,kb2,ko,fun a b bk1 bk2 o h1 h2 h3 h4 h5 h6 h7 r H' hr' sm=>?_⟩
    have:=kg a b bk1 bk2 o h1 h2 h3 h4 h5 h6 h7 r H' hr' sm
    cases r with
    | none=>exact this
    | some t=>exact this
abbrev sMixed:Stmt:=top 36
theorem scMixed:FnScope ["one", "other", "both"] ["one", "other"] (defScope sMixed):=⟨rfl,rfl,rfl,by decide +kernel,rfl,by decide +kernel,by decide +kernel⟩
def spMixR (nb:Addr):Sp:=fun vs H Q E=>∃ (v u:V) (d e:PyData),vs = [v,u]∧Thg H d v∧Thg H e u∧sml d = true∧sml e = true ∧
  (isBookD d = false→∀ H',Same H H'→E (.ref nb) none H')∧(isBookD d = true→isBookD e = false→∀ H',Same H H'→E (.ref nb) none H') ∧
  (∀ (a b:Addr) (bk1 bk2:List S),v = .ref a→u = .ref b→H a = some (.tup (bkV bk1))→H b = some (.tup (bkV bk2))→isBk bk1→isBk bk2→(bk1.length + bk2.length≤8→∀ p H',Same H H'→H' p = some (.tup (bkV (bk1 ++ bk2)))→Q (.ref p) H')∧(8 < bk1.length + bk2.length→∀ H',Same H H'→E (.ref nb) none H'))
theorem ok_mixed {f:Addr} {fd:FuncData} {nb:Addr} (F:Fun K "mixed" "mixed" sMixed f fd) (cNB:CalR P w K mg base 3 "need_book" ["thing"] (spRef nb isBookD)):FnOk P w K mg base (CXr P w) 4 f fd ["one", "other"] (spMixR nb):=by
  refine F.okR scMixed (fun vs H Q E h=>?_) (fun cdv A outer s H vs Q E hr h ok=>?_)
  · obtain ⟨v,u,d,e,rfl,_⟩:=h; rfl
  · obtain ⟨v,u,d,e,rfl,tv,tu,sd,se,kb,kb2,kg⟩:=h
    have nd:=scMixed.nd
    refine ⟨_,pss_cons (ps_expr (pe_calR cNB ok.pass hr rfl (pa_cons (pv 0) pa_nil))) (pss_cons (ps_expr (pe_calR cNB ok.pass hr rfl (pa_cons (pv 1) pa_nil)))
      (pss_cons (ps_set (i:=2) nd rfl (Or.inl rfl) (pe_op op_catTT (pv 0) (pv 1)))
      (pss_cons (ps_expr (pe_calR cNB ok.pass hr rfl (pa_cons (pv 2) pa_nil))) (pss_one (ps_ret (pv 2)))))),?_⟩
    refine ⟨_,rfl,v,d,rfl,tv,sd,fun gd H1 s1=>?_,fun bad H1 s1=>kb bad H1 s1⟩
    refine ⟨_,rfl,u,e,rfl,Thg.same s1 _ _ tu,se,fun ge H2 s2=>?_,fun bad H2 s2=>kb2 gd bad H2 (s1.trans s2)⟩
    obtain ⟨a,bk1,rfl,ha,hb1,rfl⟩:=thg_book tv gd
    obtain ⟨b,bk2,rfl,hb,hb2,rfl⟩:=thg_book tu ge
    obtain ⟨k1,k2⟩:=kg a b bk1 bk2 rfl rfl ha hb hb1 hb2
    have s02:=s1.trans s2
    have hl:(bkV bk1).length + (bkV bk2).length≤sizeLine:=by
      have:=hb1.hi
      have:=hb2.hi
      simp [bkV,sizeLine_eq]; omega
    refine ⟨_,rfl,_,rfl,a,b,_,_,rfl,rfl,s02 _ _ ha,s02 _ _ hb,hl,fun p H3 s3 hp=>?_⟩
    have hp':H3 p = some (.tup (bkV (bk1 ++ bk2))):=by rw [hp]; simp [bkV]
    have hnm:∀ x∈bk1 ++ bk2,isNm x:=fun x hx=>by
      rcases List.mem_append.mp hx with z | z
      · exact hb1.nm x z
      · exact hb2.nm x z
    have hlen:(bk1 ++ bk2).length = bk1.length + bk2.length:=List.length_append ..
    have h1:=hb1.hi
    have h2:=hb2.hi
    have h3:=hb1.lo
    refine ⟨_,rfl,.ref p,.tuple ((bk1 ++ bk2).map fun x=>PyData.str (tx x)),rfl,⟨p,_,rfl,hp',Thgs.strs _⟩,sml_names hnm (by omega),fun g H4 s4=>?_,fun bad H4 s4=>?_⟩
    · have h8:bk1.length + bk2.length≤8:=by
        simp only [isBookD,Bool.and_eq_true,decide_eq_true_eq,List.length_map] at g
        omega
      exact ⟨_,rfl,k1 h8 p H4 ((s02.trans s3).trans s4) (s4 _ _ hp')⟩
    · by_cases h8:bk1.length + bk2.length≤8
      · rw [isBookD_of ⟨by omega,by omega,hnm⟩] at bad; cases bad
      · exact k2 (by omega) H4 ((s02.trans s3).trans s4)
structure EndsOf (ps1 ps2:List (S × S)) (es:List S):Prop where
  ris:es.Pairwise (· < ·)
  mem:∀ e,e∈es↔(∃ l,(e,l)∈ps1)∧∃ l,(e,l)∈ps2
theorem ris_ext:∀ {xs ys:List S},xs.Pairwise (· < ·)→ys.Pairwise (· < ·)→(∀ p,p∈xs↔p∈ys)→xs = ys:=fun {xs ys} hx hy h=>by
  have e:=Ris.ext (α:=Unit) (xs:=xs.map fun x=>(x,())) (ys:=ys.map fun x=>(x,())) (List.pairwise_map.mpr hx) (List.pairwise_map.mpr hy) fun p=>by
    obtain ⟨p,⟨⟩⟩:=p
    simp [h]
  have:=congrArg (List.map Prod.fst) e
  rw [List.map_map,List.map_map] at this
  have hid:∀ l:List S,l.map (Prod.fst ∘ fun x=>(x,())) = l:=fun l=>List.map_id l
  rw [hid,hid] at this
  exact this
abbrev sShared:Stmt:=top 37
theorem scShared:FnScope ["one", "other", "order", "rows"] ["one", "other", "order"] (defScope sShared):=⟨rfl,rfl,rfl,by decide +kernel,rfl,by decide +kernel,by decide +kernel⟩
theorem ndSh:(["rows", "end"]:List Str).Nodup:=by decide +kernel
def spSharedR (nb no:Addr):Sp:=fun vs H Q E=>∃ (v u x:V) (d e g:PyData),vs = [v,u,x]∧Thg H d v∧Thg H e u∧Thg H g x∧sml d = true∧sml e = true∧sml g = true ∧
  (isBookD d = false→∀ H',Same H H'→E (.ref nb) none H')∧(isBookD d = true→isBookD e = false→∀ H',Same H H'→E (.ref nb) none H')∧(isBookD d = true→isBookD e = true→isOrderD g = false→∀ H',Same H H'→E (.ref no) none H') ∧
  (∀ (a b:Addr) (bk1 bk2:List S) (o:Nat),v = .ref a→u = .ref b→x = .int o→H a = some (.tup (bkV bk1))→H b = some (.tup (bkV bk2))→Bk bk1 o→Bk bk2 o→(pairsB o bk1).length < 64∧∀ es p H',EndsOf (pairsB o bk1) (pairsB o bk2) es→Same H H'→H' p = some (.lst (es.map sv))→Q (.ref p) H')
theorem RowsAt.keys {H:Hp} {d:Addr} {ps:List (S × S)} (R:RowsAt H d ps):∃ ra:List (S × Addr × List (S × Int)),H d = some (.dK (encD (fun v:Addr × List (S × Int)=>V.ref v.1) ra))∧(ra.map (·.1)).Nodup∧ra.length≤ps.length∧∀ e,e∈ra.map (·.1)↔∃ l,(e,l)∈ps:=by
  obtain ⟨ra,hra,htop,hrow⟩:=R
  have ek:ra.map (·.1) = (rowsOf ps).map (·.1):=by rw [← hra,List.map_map]; rfl
  refine ⟨ra,htop,by rw [ek]; exact (rows_ok ps).nd,?_,fun e=>?_⟩
  · have h1:=(rows_len ps).1
    rw [← hra,List.length_map] at h1
    exact h1
  · rw [ek,← (rows_ok ps).has e]
    constructor
    · intro h
      cases g:getA (rowsOf ps) e with
      | none=>exact absurd h (getA_none.mp g)
      | some r=>exact ⟨r,rfl⟩
    · rintro ⟨r,g⟩
      exact List.mem_map.mpr ⟨_,(getA_mem (rows_ok ps).nd e r).mpr g,rfl⟩
theorem RowsAt.has {H:Hp} {d:Addr} {ps:List (S × S)} (R:RowsAt H d ps) (e:S):∃ o,DGet H d (sv e) o∧(o.isSome = true↔∃ l,(e,l)∈ps):=by
  obtain ⟨ra,h1,h2,_,h4⟩:=R.keys
  refine ⟨_,DGet.k (k:=Sum.inr (tx e)) h1,?_⟩
  rw [val_enc,← h4 e]
  cases g:getA ra e with
  | none=>simp [getA_none.mp g]
  | some v=>simp; exact ⟨v.1,v.2,(getA_mem h2 e v).mpr g⟩
theorem ok_shared {f:Addr} {fd:FuncData} {nb no:Addr} (F:Fun K "shared_ends" "shared_ends" sShared f fd) (B:Blt mg) (cNB:CalR P w K mg base 3 "need_book" ["thing"] (spRef nb isBookD)) (cNO:CalR P w K mg base 3 "need_order" ["thing"] (spRef no isOrderD)) (cRows:Cal P w K mg base 3 "counted_rows" ["book", "order"] spRows):FnOk P w K mg base (CXr P w) 4 f fd ["one", "other", "order"] (spSharedR nb no):=by
  refine F.okR scShared (fun vs H Q E h=>?_) (fun cdv A outer s H vs Q E hr h ok=>?_)
  · obtain ⟨v,u,x,d,e,g,rfl,_⟩:=h; rfl
  · obtain ⟨v,u,x,d,e,g,rfl,tv,tu,tx',sd,se,sg,kb,kb2,ko,kg⟩:=h
    have hu:=hu_of hr
    have nd:=scShared.nd
    refine ⟨_,pss_cons (ps_expr (pe_calR cNB ok.pass hr rfl (pa_cons (pv 0) pa_nil))) (pss_cons (ps_expr (pe_calR cNB ok.pass hr rfl (pa_cons (pv 1) pa_nil))) (pss_cons (ps_expr (pe_calR cNO ok.pass hr rfl (pa_cons (pv 2) pa_nil)))
      (pss_cons (ps_set (i:=3) nd rfl (Or.inr rfl) (pe_cal cRows hr rfl (pa_cons (pv 1) (pa_cons (pv 2) pa_nil))))
      (pss_one (ps_ret (pe_comp (N:=["rows", "end"]) (caps:=[3]) rfl (compScope_of (by kernel_rfl))
        (pi_list (pe_callB (call_sortedD rfl) (by rfl) B.sorted PyProof.Rows.boot_sorted (pa_cons (pe_cal cRows hr rfl (pa_cons (pv 0) (pa_cons (pv 2) pa_nil))) pa_nil)))
        (fun cl C s H ex=>pg_name (i:=1) ndSh rfl (Or.inl rfl)) (fun cl C s H ex=>pf_one (pt_cmp (pc_din hu (pv 1) (pv 0)))) (fun cl C s H ex=>pv 1))))))),?_⟩
    refine ⟨_,rfl,v,d,rfl,tv,sd,fun gd H1 s1=>?_,fun bad H1 s1=>kb bad H1 s1⟩
    refine ⟨_,rfl,u,e,rfl,Thg.same s1 _ _ tu,se,fun ge H2 s2=>?_,fun bad H2 s2=>kb2 gd bad H2 (s1.trans s2)⟩
    refine ⟨_,rfl,x,g,rfl,Thg.same (s1.trans s2) _ _ tx',sg,fun gg H3 s3=>?_,fun bad H3 s3=>ko gd ge bad H3 ((s1.trans s2).trans s3)⟩
    have s03:=(s1.trans s2).trans s3
    obtain ⟨a,bk1,rfl,ha,hbk1,rfl⟩:=thg_book tv gd
    obtain ⟨b,bk2,rfl,hb,hbk2,rfl⟩:=thg_book tu ge
    obtain ⟨o,rfl,ho1,ho3⟩:=thg_order tx' gg
    have hb1:Bk bk1 o:=⟨hbk1,ho1,ho3⟩
    have hb2:Bk bk2 o:=⟨hbk2,ho1,ho3⟩
    obtain ⟨h64,k⟩:=kg a b bk1 bk2 o rfl rfl rfl ha hb hb1 hb2
    refine ⟨_,rfl,_,rfl,b,bk2,o,rfl,s03 _ _ hb,hb2.hi,hb2.l8,ho1,fun r2 H4 s4 hr2' R2=>?_⟩
    have s04:=s03.trans s4
    refine ⟨_,rfl,_,rfl,a,bk1,o,rfl,s04 _ _ ha,hb1.hi,hb1.l8,ho1,fun r1 H5 s5 hr1' R1=>?_⟩
    have s05:=s04.trans s5
    obtain ⟨ra,htop,ndk,hrl,hkm⟩:=R1.keys
    have ekeys:((ra.map fun p=>(tx p.1,V.ref p.2.1)).map (·.1)) = (ra.map (·.1)).map tx:=by rw [List.map_map,List.map_map]; rfl
    have ndt:((ra.map fun p=>(tx p.1,V.ref p.2.1)).map (·.1)).Nodup:=by
      rw [ekeys]
      exact List.Pairwise.map tx (fun a b hab z=>hab (tx_inj z)) ndk
    refine ⟨r1,ra.map (fun p:S × Addr × List (S × Int)=>(tx p.1,V.ref p.2.1)),rfl,htop,ndt,by rw [List.length_map]; omega,fun out l hperm hsrt hl=>?_⟩
    rw [ekeys] at hperm
    have hperm2:(out.map fun x=>x.cps.toList).Perm (ra.map (·.1)):=by
      have:=hperm.map fun x:Str=>x.cps.toList
      rw [List.map_map] at this
      have e:(ra.map (·.1)).map ((fun x:Str=>x.cps.toList) ∘ tx) = ra.map (·.1):=by
        conv=>rhs; rw [← List.map_id (ra.map (·.1))]
        apply List.map_congr_left
        intro x _
        exact tx_cps x
      rw [e] at this
      exact this
    have hsrt2:(out.map fun x=>x.cps.toList).Pairwise (· < ·):=List.pairwise_map.mpr hsrt
    have eout:out = (out.map fun x=>x.cps.toList).map tx:=(strs_eta out).symm
    generalize (out.map fun x=>x.cps.toList) = os at hperm2 hsrt2 eout
    subst eout
    have hol:os.length = ra.length:=by have:=hperm2.length_eq; rw [List.length_map] at this; exact this
    have sl:Same H5 (upd H5 l (.lst ((os.map tx).map V.str))):=Same.upd1 hl
    refine ⟨l,rfl,⟨_,.of upd_same⟩,?_⟩
    have hl6:upd H5 l (.lst ((os.map tx).map V.str)) l = some (.lst ((os.map tx).map V.str)):=upd_same
    generalize upd H5 l (.lst ((os.map tx).map V.str)) = H6 at sl hl6
    have s56:=s5.trans sl
    have dec:∀ e:S,Decidable (∃ l,(e,l)∈pairsB o bk2):=fun e=>Classical.propDecidable _
    refine comp_known (known_list K l _) [some (.ref r2)] 1 (by rw [List.length_map,List.length_map]; omega) (fun i acc H'=>Same H6 H'∧acc = ((os.take i).filter fun e=>@decide _ (dec e)).map sv)
      ⟨Same.refl _,rfl⟩ (fun i acc H' _ h=>⟨.of (h.1 _ _ hl6),by
        rw [h.2,List.length_map]
        have h1:=List.length_filter_le (fun e=>@decide _ (dec e)) (os.take i)
        rw [List.length_take] at h1
        omega⟩) ?_ ?_
    · rintro i y acc H' ys Nx hN hx hy ⟨sm,rfl⟩
      obtain ⟨y',rfl⟩:=ys1 hy
      rw [List.getElem?_map,List.getElem?_map] at hx
      cases ep:os[i]? with
      | none=>rw [ep] at hx; cases hx
      | some e =>
      rw [ep] at hx
      have hx2:y = sv e:=(Option.some.inj hx).symm
      subst hx2
      obtain ⟨ov,hg1,hg2⟩:=((R2.same s56).same sm).has e
      have etk:os.take (i + 1) = os.take i ++ [e]:=by
        rw [List.take_succ_eq_append_getElem (List.getElem?_eq_some_iff.mp ep).1,(List.getElem?_eq_some_iff.mp ep).2]
      refine ⟨_,rfl,_,rfl,r2,ov,rfl,hg1,_,rfl,?_⟩
      by_cases c:ov.isSome = true
      · refine ite_b c ⟨_,rfl,hN _ _ [some (sv e)] rfl ⟨sm,?_⟩⟩
        rw [etk,List.filter_append,List.map_append]
        have:@decide _ (dec e) = true:=@decide_eq_true _ (dec e) (hg2.mp c)
        simp [this]
      · refine ite_nb c (hN _ _ [some (sv e)] rfl ⟨sm,?_⟩)
        rw [etk,List.filter_append]
        have:@decide _ (dec e) = false:=@decide_eq_false _ (dec e) (fun z=>c (hg2.mpr z))
        simp [this]
    · rintro acc H' ⟨sm,rfl⟩ D hD
      rw [List.length_map,List.length_map,List.take_length]
      refine k (os.filter fun e=>@decide _ (dec e)) D _ ⟨List.Pairwise.filter _ hsrt2,fun e=>?_⟩ (((s05.trans sl).trans sm).trans (Same.upd1 hD)) upd_same
      rw [List.mem_filter,hperm2.mem_iff,hkm]
      constructor
      · rintro ⟨h1,h2⟩; exact ⟨h1,@of_decide_eq_true _ (dec e) h2⟩
      · rintro ⟨h1,h2⟩; exact ⟨h1,@decide_eq_true _ (dec e) h2⟩
end
end Kn
end
section
set_option Elab.async false
set_option linter.all false
set_option maxRecDepth 100000
set_option maxHeartbeats 1000000
namespace L2
open PySem PySem.Spec PyProof.Rows
theorem FnOk.calm {P:Program} {w:World} {K:PySem.W.Frag} {mg:Str→Option Value} {base:Heap} {k:Nat} {f:Addr} {fd:FuncData} {ps:List Str} {sp sp':Sp} (F:FnOk P w K mg base (CXr P w) k f fd ps sp)
    (h:∀ vs H Q E,sp' vs H Q E→sp vs H Q (fun _ _ _=>False)):FnOk P w K mg base CX0 k f fd ps sp':=by
  refine ⟨fun vs H Q E q=>F.len vs H Q _ (h _ _ _ _ q),fun A outer s H args us vs Q E hr he hb hv hs=>?_⟩
  refine codeAny_mono (F.run A outer s H args us vs Q (fun _ _ _=>False) hr he hb hv (h _ _ _ _ hs)) fun res s' c=>?_
  cases res with
  | error e =>
    obtain ⟨_,_,_,_,_,_,_,z⟩:=c
    exact z.elim
  | ok fl=>cases fl <;> exact c
end L2
end
section
set_option Elab.async false
set_option linter.all false
set_option maxRecDepth 100000
set_option maxHeartbeats 1000000
namespace Kn.Ln
open PySem L2 Kn
theorem xcls_top {K:PySem.W.Frag} {x:Str} {c:Addr} (b:PySem.W.nsIn K mainGlobals x = some (some (.ref c))) (h:PySem.W.excIn K c veMro "ValueError.__new__" = true):∃ C,∀ (h:Heap) (mg:Str→Option Value),K.In h→h.Ns mainGlobals mg→XCls K mg x C :=
  ⟨c,fun hp mg X G=>⟨PySem.W.mg_of X G b,h⟩⟩
theorem bkV_injL:∀ {a b:List S},bkV a = bkV b→a = b
  | [],[],_=>rfl
  | [],_ :: _,h=>by cases h
  | _ :: _,[],h=>by cases h
  | x :: a,y :: b,h=>by
    have h1:=(List.cons.inj h).1
    have h2:bkV a = bkV b:=(List.cons.inj h).2
    rw [bkV_injL h2,tx_inj (V.str.inj h1)]
theorem thgBL {H:Hp} {p:Addr} {bk:List S} (h:H p = some (.tup (bkV bk))):Thg H (.tuple (bk.map fun x=>PyData.str (tx x))) (.ref p):=⟨p,_,rfl,h,Thgs.strs bk⟩
theorem no_falseL {b:Bool} {A:Prop} (h:b = true):b = false→A:=fun z=>by rw [h] at z; cases z
theorem order_okL {o:Nat} (h1:1≤o) (h3:o≤3):isOrderD (.int (o:Int)) = true:=by simp only [isOrderD,Bool.and_eq_true,decide_eq_true_eq]; omega
theorem same_bkL {H:Hp} {p a:Addr} {bk bk':List S} (h:H p = some (.tup (bkV bk))) (e:V.ref p = .ref a) (h':H a = some (.tup (bkV bk'))):bk' = bk:=by
  have e':p = a:=V.ref.inj e
  subst e'
  rw [h] at h'
  exact (bkV_injL (HO.tup.inj (Option.some.inj h'))).symm
theorem same_oL {o o':Nat} (e:V.int (o:Int) = .int (o':Int)):o' = o:=by have:=V.int.inj e; omega
def spMixG:Sp:=fun vs H Q _=>∃ (a b:Addr) (bk1 bk2:List S),vs = [.ref a,.ref b]∧H a = some (.tup (bkV bk1))∧H b = some (.tup (bkV bk2))∧isBk bk1∧isBk bk2∧bk1.length + bk2.length≤8∧∀ p H',Same H H'→H' p = some (.tup (bkV (bk1 ++ bk2)))→Q (.ref p) H'
def spLackG:Sp:=fun vs H Q _=>∃ (a b:Addr) (bk1 bk2:List S) (o:Nat),vs = [.ref a,.ref b,.int o]∧H a = some (.tup (bkV bk1))∧H b = some (.tup (bkV bk2))∧Bk bk1 o∧Bk bk2 o∧∀ r H',IsLack (pairsB o bk1) (pairsB o bk2) o r→Same H H'→Q (optS r) H'
def spAllG:Sp:=fun vs H Q _=>∃ (a b:Addr) (bk1 bk2:List S) (o:Nat),vs = [.ref a,.ref b,.int o]∧H a = some (.tup (bkV bk1))∧H b = some (.tup (bkV bk2))∧Bk bk1 o∧Bk bk2 o∧∀ r H',IsLack (pairsB o bk1) (pairsB o bk2) o r→Same H H'→Q (.bl r.isNone) H'
def spSharedG:Sp:=fun vs H Q _=>∃ (a b:Addr) (bk1 bk2:List S) (o:Nat),vs = [.ref a,.ref b,.int o]∧H a = some (.tup (bkV bk1))∧H b = some (.tup (bkV bk2))∧Bk bk1 o∧Bk bk2 o∧(pairsB o bk1).length < 64∧∀ es p H',EndsOf (pairsB o bk1) (pairsB o bk2) es→Same H H'→H' p = some (.lst (es.map sv))→Q (.ref p) H'
section
variable {P:Program} {w:World} {K:PySem.W.Frag} {mg:Str→Option Value} {base:Heap}
theorem CalR.calm {k:Nat} {x:Str} {ps:List Str} {sp sp':Sp} (C:CalR P w K mg base k x ps sp) (h:∀ vs H Q E,sp' vs H Q E→sp vs H Q (fun _ _ _=>False)):Cal P w K mg base k x ps sp' :=
  let ⟨f,fd,F,r⟩:=C
  ⟨f,fd,F.calm h,r⟩
theorem mixG {nb:Addr} (C:CalR P w K mg base 4 "mixed" ["one", "other"] (spMixR nb)):Cal P w K mg base 4 "mixed" ["one", "other"] spMixG:=by
  refine CalR.calm C fun vs H Q E h=>?_
  obtain ⟨a,b,bk1,bk2,rfl,h1,h2,B1,B2,h8,k⟩:=h
  have s1:=sml_names B1.nm (by have:=B1.hi; omega)
  have s2:=sml_names B2.nm (by have:=B2.hi; omega)
  refine ⟨_,_,_,_,rfl,thgBL h1,thgBL h2,s1,s2,no_falseL (isBookD_of B1),fun _=>no_falseL (isBookD_of B2),fun a' b' bk1' bk2' e1 e2 g1 g2 g3 g4=>?_⟩
  have q1:=same_bkL h1 e1 g1
  have q2:=same_bkL h2 e2 g2
  subst q1 q2
  exact ⟨fun _=>k,fun z=>by omega⟩
theorem lackG {nb no:Addr} (C:CalR P w K mg base 4 "lacking" ["one", "other", "order"] (spLackR nb no)):Cal P w K mg base 4 "lacking" ["one", "other", "order"] spLackG:=by
  refine CalR.calm C fun vs H Q E h=>?_
  obtain ⟨a,b,bk1,bk2,o,rfl,h1,h2,B1,B2,k⟩:=h
  have s1:=sml_names B1.nm (by have:=B1.hi; omega)
  have s2:=sml_names B2.nm (by have:=B2.hi; omega)
  refine ⟨_,_,_,_,_,.int o,rfl,thgBL h1,thgBL h2,rfl,s1,s2,rfl,no_falseL (isBookD_of B1.toisBk),fun _=>no_falseL (isBookD_of B2.toisBk),fun _ _=>no_falseL (order_okL B1.o1 B1.o3),fun a' b' bk1' bk2' o' e1 e2 e3 g1 g2 g3 g4=>?_⟩
  have q1:=same_bkL h1 e1 g1
  have q2:=same_bkL h2 e2 g2
  have q3:=same_oL e3
  subst q1 q2 q3
  exact k
theorem allG {nb no:Addr} (C:CalR P w K mg base 5 "makes_all" ["one", "other", "order"] (spAllR nb no)):Cal P w K mg base 5 "makes_all" ["one", "other", "order"] spAllG:=by
  refine CalR.calm C fun vs H Q E h=>?_
  obtain ⟨a,b,bk1,bk2,o,rfl,h1,h2,B1,B2,k⟩:=h
  have s1:=sml_names B1.nm (by have:=B1.hi; omega)
  have s2:=sml_names B2.nm (by have:=B2.hi; omega)
  refine ⟨_,_,_,_,_,.int o,rfl,thgBL h1,thgBL h2,rfl,s1,s2,rfl,no_falseL (isBookD_of B1.toisBk),fun _=>no_falseL (isBookD_of B2.toisBk),fun _ _=>no_falseL (order_okL B1.o1 B1.o3),fun a' b' bk1' bk2' o' e1 e2 e3 g1 g2 g3 g4=>?_⟩
  have q1:=same_bkL h1 e1 g1
  have q2:=same_bkL h2 e2 g2
  have q3:=same_oL e3
  subst q1 q2 q3
  exact k
theorem sharedG {nb no:Addr} (C:CalR P w K mg base 4 "shared_ends" ["one", "other", "order"] (spSharedR nb no)):Cal P w K mg base 4 "shared_ends" ["one", "other", "order"] spSharedG:=by
  refine CalR.calm C fun vs H Q E h=>?_
  obtain ⟨a,b,bk1,bk2,o,rfl,h1,h2,B1,B2,h64,k⟩:=h
  have s1:=sml_names B1.nm (by have:=B1.hi; omega)
  have s2:=sml_names B2.nm (by have:=B2.hi; omega)
  refine ⟨_,_,_,_,_,.int o,rfl,thgBL h1,thgBL h2,rfl,s1,s2,rfl,no_falseL (isBookD_of B1.toisBk),fun _=>no_falseL (isBookD_of B2.toisBk),fun _ _=>no_falseL (order_okL B1.o1 B1.o3),fun a' b' bk1' bk2' o' e1 e2 e3 g1 g2 g3 g4=>?_⟩
  have q1:=same_bkL h1 e1 g1
  have q2:=same_bkL h2 e2 g2
  have q3:=same_oL e3
  subst q1 q2 q3
  exact ⟨h64,k⟩
end
end Kn.Ln
end
section
set_option Elab.async false
set_option linter.all false
set_option maxRecDepth 100000
set_option maxHeartbeats 4000000
namespace Kn.Ln
open PySem L2 Kn
theorem lack_self {ps:List (S × S)} {o:Nat} {r:Option S} (h:IsLack ps ps o r):r = none:=by
  cases r with
  | none=>rfl
  | some t=>exact absurd h.1.2.2.1 h.1.2.2.2
theorem lack_more {bk bk':List S} {o:Nat} {r:Option S} (hs:∀ x∈bk,x∈bk') (h:IsLack (pairsB o bk') (pairsB o bk) o r):r = none:=by
  cases r with
  | none=>rfl
  | some t=>exact absurd (fun q hq=>pair_more (h.1.2.2.1 q hq) hs) h.1.2.2.2
theorem lack_trans {ps1 ps2 ps3:List (S × S)} {o:Nat} {r:Option S} (h12:IsLack ps1 ps2 o none) (h23:IsLack ps2 ps3 o none) (h:IsLack ps1 ps3 o r):r = none:=by
  cases r with
  | none=>rfl
  | some t =>
    obtain ⟨⟨a,b,c,d⟩,_⟩:=h
    by_cases z:Mk ps2 o t
    · exact absurd ⟨a,b,z,d⟩ (h12 t)
    · exact absurd ⟨a,b,c,z⟩ (h23 t)
def upTo:Option S→Nat
  | none=>9
  | some t=>t.length
theorem lack_short {ps1 ps2:List (S × S)} {o:Nat} {r:Option S} (h:IsLack ps1 ps2 o r) {n:Nat} (h1:1≤n) (h8:n≤8) (hn:n < upTo r) {x:S} (hx:Made ps2 o n x):Made ps1 o n x:=by
  refine ⟨hx.1,?_⟩
  refine Classical.byContradiction fun z=>?_
  have hL:Lost ps1 ps2 o x:=⟨by rw [hx.1]; exact h1,by rw [hx.1]; exact h8,hx.2,z⟩
  cases r with
  | none=>exact h x hL
  | some t =>
    have e:=hx.1
    have:n < t.length:=hn
    rcases h.2 x hL with q | q <;> omega
theorem sub_len:∀ {A M:List S},A.Nodup→(∀ x∈A,x∈M)→A.length≤M.length
  | [],_,_,_=>Nat.zero_le _
  | a :: A,M,nd,h=>by
    obtain ⟨n1,n2⟩:=List.nodup_cons.mp nd
    have hm:=h a (List.mem_cons_self ..)
    have ih:=sub_len (A:=A) (M:=M.erase a) n2 fun x hx=>(List.mem_erase_of_ne fun e=>n1 (by rw [← e]; exact hx)).mpr (h x (List.mem_cons_of_mem _ hx))
    rw [List.length_erase_of_mem hm] at ih
    have:0 < M.length:=List.length_pos_of_mem hm
    rw [List.length_cons]
    omega
theorem many_le {bk1 bk2:List S} {o n N1 N2:Nat} {A:List S} (hA:A.Nodup) (hA2:∀ x,x∈A↔Made (pairsB o bk2) o n x) (h:∀ x,Made (pairsB o bk2) o n x→Made (pairsB o bk1) o n x) (h1:IsMany (pairsB o bk1) o n N1) (h2:IsMany (pairsB o bk2) o n N2):N2≤N1:=by
  obtain ⟨M,m1,m2⟩:=made_list (pairsB o bk1) (ones_B o bk1) o n
  rw [h1 M m1 m2,h2 A hA hA2]
  exact sub_len hA fun x hx=>(m2 x).mpr (h x ((hA2 x).mp hx))
theorem ends_own {bk bk':List S} {o:Nat} {es:List S} {tb:List (S × List (S × Int))} (hs:∀ x∈bk,x∈bk') (h:EndsOf (pairsB o bk') (pairsB o bk) es) (t:IsTable (pairsB o bk) tb):es = tb.map (·.1):=by
  refine ris_ext h.ris (List.pairwise_map.mpr t.ris) fun e=>?_
  rw [h.mem,List.mem_map]
  constructor
  · rintro ⟨_,l,hl⟩
    obtain ⟨xs,hx⟩:=(t.has e).mpr ⟨l,hl⟩
    exact ⟨_,hx,rfl⟩
  · rintro ⟨p,hp,rfl⟩
    obtain ⟨l,hl⟩:=(t.has p.1).mp ⟨p.2,hp⟩
    exact ⟨⟨l,pair_more hl hs⟩,l,hl⟩
theorem ends_sym {ps1 ps2:List (S × S)} {es fs:List S} (h1:EndsOf ps1 ps2 es) (h2:EndsOf ps2 ps1 fs):es = fs:=ris_ext h1.ris h2.ris fun e=>by rw [h1.mem,h2.mem]; exact And.comm
theorem strs_can {L:List S} (h:∀ x∈L,∀ c∈x,c≤122):(PyData.list (L.map fun x=>PyData.str (tx x))).canLay0 = true :=
  (shaped_list fun d hd=>by
    obtain ⟨x,hx,rfl⟩:=List.mem_map.mp hd
    exact ⟨strOk_of (h x hx),by show 0≤10; decide⟩).2
theorem tab_len {ps:List (S × S)} {tb:List (S × List (S × Int))} (t:IsTable ps tb):tb.length≤ps.length:=by
  have pw:(tb.map Prod.fst).Pairwise (· < ·):=List.pairwise_map.mpr t.ris
  have nd:(tb.map Prod.fst).Nodup:=pw.imp fun {a b} z (e:a = b)=>by rw [e] at z; exact s_irr _ z
  have:=sub_len (A:=tb.map Prod.fst) (M:=ps.map Prod.fst) nd fun e he=>by
    obtain ⟨p,hp,rfl⟩:=List.mem_map.mp he
    obtain ⟨l,hl⟩:=(t.has p.1).mp ⟨p.2,hp⟩
    exact List.mem_map.mpr ⟨_,hl,rfl⟩
  simpa using this
theorem end_ok {bk:List S} {o:Nat} (hb:Bk bk o) {e l:S} (h:(e,l)∈pairsB o bk):∀ c∈e,c≤122:=fun c hc=>by
  obtain ⟨nm,hn,hp⟩:=List.mem_flatMap.mp h
  obtain ⟨p,_,e1⟩:=List.mem_map.mp hp
  have e2:endOf (nm.take p) o = e:=congrArg Prod.fst e1
  rw [← e2] at hc
  unfold endOf at hc
  exact ((hb.nm nm hn).2.2 c (List.mem_of_mem_take (List.mem_of_mem_drop hc))).2
theorem tSeq_absL {t u:TS} {D:Ends} {σ:St} {H:Hp} (R:St→Hp→Prop) (h2:∀ σ' H',R σ' H'→u D σ' H') (h1:∀ N:St→Hp→Prop,(∀ σ' H',R σ' H'→N σ' H')→t { D with nx:=N } σ H):tSeq t u D σ H:=h1 (u D) h2
theorem bools_rep {K:PySem.W.Frag} {H:Hp} {l:Addr} {bs:List Bool} (h:H l = some (.lst (bs.map V.bl))):Rep K H (.list (bs.map PyData.bool)) (.ref l):=by
  have go:∀ cs:List Bool,Reps K H (cs.map PyData.bool) (cs.map V.bl):=by
    intro cs
    induction cs with
    | nil=>rfl
    | cons c cs ih=>exact ⟨_,_,rfl,rfl,ih⟩
  exact ⟨l,bs.map V.bl,rfl,.of h,go bs⟩
theorem next_of {D:Ends} {σ:St} {H:Hp} (h:D.nx σ H):tNext D σ H:=h
theorem bools_lay {bs:List Bool}:SeqAt.shaped (.list (bs.map PyData.bool)) = true∧(PyData.list (bs.map PyData.bool)).canLay0 = true:=shaped_list fun d hd=>by
  obtain ⟨b,_,rfl⟩:=List.mem_map.mp hd
  exact ⟨rfl,by show 0≤10; decide⟩
theorem rep_flatB (n:Nat) (b:Bool):(List.replicate n [V.bl b]).flatten = (List.replicate n b).map V.bl:=by
  induction n with
  | zero=>rfl
  | succ n ih=>rw [List.replicate_succ,List.flatten_cons,ih,List.replicate_succ,List.map_cons]; rfl
theorem rng_item {e:Int} {i:Nat} {z:V} (h:((List.range (e - 1).toNat).map fun (i:Nat)=>V.int (1 + (i:Int)))[i]? = some z):∃ n:Nat,z = .int (n:Int)∧1≤n∧(n:Int) < e:=by
  have hi:i < (e - 1).toNat:=by
    have:=(List.getElem?_eq_some_iff.mp h).1
    simpa using this
  rw [List.getElem?_map,List.getElem?_range hi] at h
  refine ⟨1 + i,(Option.some.inj h).symm,by omega,by omega⟩
structure Sb (bk:List S):Prop where
  lo:1≤bk.length
  hi:bk.length≤2
  nm:∀ x∈bk,isNm x∧x.length≤3∧∀ c∈x,c = 97∨c = 98∨c = 122
theorem Sb.isb {bk:List S} (h:Sb bk):isBk bk:=⟨h.lo,by have:=h.hi; omega,fun x hx=>(h.nm x hx).1⟩
theorem Sb.len {bk:List S} (h:Sb bk) (o:Nat):(pairsB o bk).length≤10:=by
  have:=plen_le4 (bk:=bk) (o:=o) fun x hx=>by have:=(h.nm x hx).2.1; omega
  have:=h.hi
  omega
theorem plen3 {bk:List S} {o:Nat} (h:∀ x∈bk,x.length≤3):(pairsB o bk).length≤4 * bk.length:=by
  have h2:((pairsB o bk).length:Int)≤4 * (bk.length:Int):=by
    rw [pairsB_length]
    have go:∀ l:List S,(∀ x∈l,x.length≤3)→(l.map fun x=>(x.length:Int) + 1).sum≤4 * (l.length:Int):=by
      intro l
      induction l with
      | nil=>intro _; simp
      | cons x r ih =>
        intro hl
        have h1:=hl x (List.mem_cons_self ..)
        have h2:=ih fun y hy=>hl y (List.mem_cons_of_mem _ hy)
        rw [List.map_cons,List.sum_cons,List.length_cons]
        have:((r.length + 1:Nat):Int) = (r.length:Int) + 1:=rfl
        omega
    exact go bk h
  omega
theorem Sb.fit {bk bk':List S} {o:Nat} (h:Sb bk) (h':Sb bk') (h1:1≤o) (h3:o≤3) {x:S} (hx:Mk (pairsB o bk') o x) (l1:1≤x.length) (l8:x.length≤8):Fit bk o x:=by
  refine ⟨⟨h.isb,h1,h3⟩,⟨l1,l8,fun c hc=>?_⟩,?_⟩
  · obtain ⟨nm,hn,hcn⟩:=go_let x.length x rfl (mk_iff.mp hx).1 c hc
    exact (h'.nm nm hn).1.2.2 c hcn
  · have p8:(pairsB o bk).length≤8:=by
      have:=plen3 (bk:=bk) (o:=o) fun x hx=>(h.nm x hx).2.1
      have:=h.hi
      omega
    have h5:(pairsB o bk).length ^ (x.length + 1)≤8 ^ (x.length + 1):=Nat.pow_le_pow_left p8 _
    have h6:8 ^ (x.length + 1)≤8 ^ 9:=Nat.pow_le_pow_right (by decide) (by omega)
    have h7:8 ^ 9 = 134217728:=by decide
    omega
def BkAt (H:Hp) (v:V):Prop:=∃ (p:Addr) (bk:List S),v = .ref p∧H p = some (.tup (bkV bk))∧Sb bk
theorem BkAt.same {H H':Hp} {v:V} (h:BkAt H v) (e:Same H H'):BkAt H' v:=let ⟨p,bk,a,b,c⟩:=h; ⟨p,bk,a,e _ _ b,c⟩
section
variable {P:Program} {w:World} {K:PySem.W.Frag} {mg:Str→Option Value} {base:Heap}
structure LawC (P:Program) (w:World) (K:PySem.W.Frag) (mg:Str→Option Value) (base:Heap):Prop where
  dr:cDr P w K mg base
  bk:Cal P w K mg base 4 "_law_book" ["_law_script", "_law_at", "_law_many", "_law_most"] (spBook K)
  am:Cal P w K mg base 4 "all_made" ["book", "order", "length"] spAM
  hm:Cal P w K mg base 5 "how_many" ["book", "order", "length"] spHM
  tb:Cal P w K mg base 4 "table" ["book", "order"] (spTable K)
  mks:Cal P w K mg base 7 "makes" ["book", "order", "name"] spMakes
  mx:Cal P w K mg base 4 "mixed" ["one", "other"] spMixG
  lk:Cal P w K mg base 4 "lacking" ["one", "other", "order"] spLackG
  al:Cal P w K mg base 5 "makes_all" ["one", "other", "order"] spAllG
  se:Cal P w K mg base 4 "shared_ends" ["one", "other", "order"] spSharedG
abbrev sLaw:Stmt:=top 62
theorem scLaw:FnScope ["_law_script", "_law_books", "_law_order", "_law_one", "_law_other", "_law_both", "_law_name_here", "_law_some", "_law_long", "_law_rows", "_law_thirds", "_law_lost"] ["_law_script"] (defScope sLaw):=⟨rfl,rfl,rfl,by decide +kernel,rfl,by decide +kernel,by decide +kernel⟩
theorem ndK:(["_law_script", "_law_k"]:List Str).Nodup:=by decide +kernel
theorem ndE:(["_law_end", "_law_row"]:List Str).Nodup:=by decide +kernel
theorem ndM1:(["_law_one", "_law_order", "_law_more"]:List Str).Nodup:=by decide +kernel
theorem ndM2:(["_law_other", "_law_order", "_law_more"]:List Str).Nodup:=by decide +kernel
theorem ndT1:(["_law_other", "_law_order", "_law_third"]:List Str).Nodup:=by decide +kernel
theorem ndT2:(["_law_one", "_law_order", "_law_third"]:List Str).Nodup:=by decide +kernel
def spLaw (K:PySem.W.Frag):Sp:=fun vs H Q _=>∃ (a:Addr) (ns:List Int),vs = [.ref a]∧SqL K H a (ns.map V.int)∧ns.length≤63∧∀ H',Q (.bl true) H'
theorem ok_law {f:Addr} {fd:FuncData} (F:Fun K "law" "law" sLaw f fd) (B:Blt mg) (C:LawC P w K mg base):FnOk P w K mg base CX0 8 f fd ["_law_script"] (spLaw K):=by
  refine F.ok scLaw (fun vs H Q E h=>?_) (fun cdv A outer s H vs Q E hr h=>?_)
  · obtain ⟨a,ns,rfl,_⟩:=h; rfl
  · obtain ⟨a,ns,rfl,ha,hl,k⟩:=h
    have nd:=scLaw.nd
    have hu:=hr.units
    have r5:=hr.mono (j:=5) (by decide)
    have r4:=hr.mono (j:=4) (by decide)
    have r2:=hr.mono (j:=2) (by decide)
    refine ⟨_,pss_cons (ps_setC (j:=1) (N:=["_law_script", "_law_k"]) (caps:=[0]) nd rfl (Or.inl rfl) rfl (compScope_of (by kernel_rfl)) (pi_range1 rfl B.range (pa_cons pe_int pa_nil))
        (fun cl X s H ex=>pg_name (i:=1) ndK rfl (Or.inl rfl)) (fun cl X s H ex=>pf_nil) (fun cl X s H ex=>pe_cal C.bk r4 rfl (pa_cons (pv 0) (pa_cons (pe_op op_mul pe_int (pv 1)) (pa_cons pe_int (pa_cons pe_int pa_nil))))))
      (pss_cons (ps_set (i:=2) nd rfl (Or.inr rfl) (pe_op op_add pe_int (pe_cal C.dr r2 rfl (pa_cons (pv 0) (pa_cons pe_int (pa_cons pe_int pa_nil))))))
      (pss_cons (ps_for PassesOwn.never rfl (pi_list (pv 1)) (pg_name (i:=3) nd rfl (Or.inr rfl))
        (pss_cons (ps_if (PW.pt (pw_or (pt_not (pt_val (pe_cal C.al r5 rfl (pa_cons (pv 3) (pa_cons (pv 3) (pa_cons (pv 2) pa_nil)))))) (pw_or1 (pt_cmp (pc_notN (pe_cal C.lk r4 rfl (pa_cons (pv 3) (pa_cons (pv 3) (pa_cons (pv 2) pa_nil))))))))) (pss_one (ps_ret pe_bl)) pss_nil)
        (pss_one (ps_for PassesOwn.never rfl (pi_list (pv 1)) (pg_name (i:=4) nd rfl (Or.inr rfl))
          (pss_cons (ps_set (i:=5) nd rfl (Or.inl rfl) (pe_cal C.mx r4 rfl (pa_cons (pv 3) (pa_cons (pv 4) pa_nil))))
          (pss_cons (ps_if (PW.pt (pw_or (pt_not (pt_val (pe_cal C.al r5 rfl (pa_cons (pv 5) (pa_cons (pv 3) (pa_cons (pv 2) pa_nil)))))) (pw_or1 (pt_not (pt_val (pe_cal C.al r5 rfl (pa_cons (pv 5) (pa_cons (pv 4) (pa_cons (pv 2) pa_nil))))))))) (pss_one (ps_ret pe_bl)) pss_nil)
          (pss_cons (ps_if (pt_cmpR (op_neD hu) (pe_cal C.se r4 rfl (pa_cons (pv 5) (pa_cons (pv 3) (pa_cons (pv 2) pa_nil)))) (pe_comp (N:=["_law_end", "_law_row"]) (caps:=[]) rfl (compScope_of (by kernel_rfl)) (pi_list (pe_cal C.tb r4 rfl (pa_cons (pv 3) (pa_cons (pv 2) pa_nil))))
              (fun cl X s H ex=>pg_tupK K 2 rfl rfl (pgs_cons (pg_name (i:=0) ndE rfl (Or.inl rfl)) (pgs_cons (pg_name (i:=1) ndE rfl (Or.inl rfl)) pgs_nil)) rfl rfl) (fun cl X s H ex=>pf_nil) (fun cl X s H ex=>pv 0)) (nomark _)) (pss_one (ps_ret pe_bl)) pss_nil)
          (pss_cons (ps_if (pt_cmpR (op_neD hu) (pe_cal C.se r4 rfl (pa_cons (pv 3) (pa_cons (pv 4) (pa_cons (pv 2) pa_nil)))) (pe_cal C.se r4 rfl (pa_cons (pv 4) (pa_cons (pv 3) (pa_cons (pv 2) pa_nil)))) (nomark _)) (pss_one (ps_ret pe_bl)) pss_nil)
          (pss_cons (ps_set (i:=6) nd rfl (Or.inl rfl) (pe_cal C.lk r4 rfl (pa_cons (pv 3) (pa_cons (pv 4) (pa_cons (pv 2) pa_nil)))))
          (pss_cons (ps_if (pt_cmpR op_ne (pe_cmp (pc_isN (pv 6))) (pe_cal C.al r5 rfl (pa_cons (pv 3) (pa_cons (pv 4) (pa_cons (pv 2) pa_nil)))) (nomark _)) (pss_one (ps_ret pe_bl)) pss_nil)
          (pss_cons (ps_set (i:=7) nd rfl (Or.inl rfl) (pe_ifExp (pt_cmp (pc_notN (pv 6))) (pe_lst (pa_cons (pv 6) pa_nil)) (pe_lst pa_nil)))
          (pss_cons (ps_if (pt_cmpR (op_neD hu) (pe_comp (N:=["_law_one", "_law_order", "_law_more"]) (caps:=[3,2]) rfl (compScope_of (by kernel_rfl)) (pi_list (pv 7)) (fun cl X s H ex=>pg_name (i:=2) ndM1 rfl (Or.inl rfl)) (fun cl X s H ex=>pf_nil)
              (fun cl X s H ex=>pe_cal C.mks hr rfl (pa_cons (pv 0) (pa_cons (pv 1) (pa_cons (pv 2) pa_nil))))) (pe_op op_rep (pe_lst (pa_cons pe_bl pa_nil)) (pe_callB call_len_seq (by rfl) B.len PySem.boot_len (pa_cons (pv 7) pa_nil))) (nomark _)) (pss_one (ps_ret pe_bl)) pss_nil)
          (pss_cons (ps_if (pt_cmpR (op_neD hu) (pe_comp (N:=["_law_other", "_law_order", "_law_more"]) (caps:=[4,2]) rfl (compScope_of (by kernel_rfl)) (pi_list (pv 7)) (fun cl X s H ex=>pg_name (i:=2) ndM2 rfl (Or.inl rfl)) (fun cl X s H ex=>pf_nil)
              (fun cl X s H ex=>pe_cal C.mks hr rfl (pa_cons (pv 0) (pa_cons (pv 1) (pa_cons (pv 2) pa_nil))))) (pe_op op_rep (pe_lst (pa_cons pe_bl pa_nil)) (pe_callB call_len_seq (by rfl) B.len PySem.boot_len (pa_cons (pv 7) pa_nil))) (nomark _)) (pss_one (ps_ret pe_bl)) pss_nil)
          (pss_cons (ps_for PassesOwn.never rfl (pi_range2 rfl B.range (pa_cons pe_int (pa_cons (pe_callB (call_min2 rfl) (by rfl) B.min PyProof.Rows.boot_min (pa_cons pe_int (pa_cons (pe_ifExp (pt_cmp (pc_isN (pv 6))) pe_int (pe_callB call_len_str (by rfl) B.len PySem.boot_len (pa_cons (pv 6) pa_nil))) pa_nil))) pa_nil))) (pg_name (i:=8) nd rfl (Or.inl rfl))
            (pss_cons (ps_setC (j:=9) (N:=["_law_one", "_law_order", "_law_more"]) (caps:=[3,2]) nd rfl (Or.inl rfl) rfl (compScope_of (by kernel_rfl)) (pi_list (pe_cal C.am r4 rfl (pa_cons (pv 4) (pa_cons (pv 2) (pa_cons (pv 8) pa_nil))))) (fun cl X s H ex=>pg_name (i:=2) ndM1 rfl (Or.inl rfl))
                (fun cl X s H ex=>pf_one (pt_not (pt_val (pe_cal C.mks hr rfl (pa_cons (pv 0) (pa_cons (pv 1) (pa_cons (pv 2) pa_nil))))))) (fun cl X s H ex=>pv 2))
            (pss_one (ps_if (PW.pt (pw_or (pt_cmpR (op_neD hu) (pv 9) (pe_lst pa_nil) (nomark _)) (pw_or1 (pt_cmpR op_lt (pe_cal C.hm r5 rfl (pa_cons (pv 3) (pa_cons (pv 2) (pa_cons (pv 8) pa_nil)))) (pe_cal C.hm r5 rfl (pa_cons (pv 4) (pa_cons (pv 2) (pa_cons (pv 8) pa_nil)))) (nomark _))))) (pss_one (ps_ret pe_bl)) pss_nil))))
          (pss_cons (ps_setC (j:=10) (N:=["_law_other", "_law_order", "_law_third"]) (caps:=[4,2]) nd rfl (Or.inl rfl) rfl (compScope_of (by kernel_rfl)) (pi_list (pv 1)) (fun cl X s H ex=>pg_name (i:=2) ndT1 rfl (Or.inl rfl))
              (fun cl X s H ex=>pf_one (pt_val (pe_cal C.al r5 rfl (pa_cons (pv 0) (pa_cons (pv 2) (pa_cons (pv 1) pa_nil)))))) (fun cl X s H ex=>pv 2))
          (pss_cons (ps_setC (j:=11) (N:=["_law_one", "_law_order", "_law_third"]) (caps:=[3,2]) nd rfl (Or.inl rfl) rfl (compScope_of (by kernel_rfl)) (pi_list (pv 10)) (fun cl X s H ex=>pg_name (i:=2) ndT2 rfl (Or.inl rfl))
              (fun cl X s H ex=>pf_one (pt_not (pt_val (pe_cal C.al r5 rfl (pa_cons (pv 0) (pa_cons (pv 2) (pa_cons (pv 1) pa_nil))))))) (fun cl X s H ex=>pv 2))
          (pss_one (ps_if (PW.pt (pw_and (pt_cmp (pc_isN (pv 6))) (pw_and1 (pt_cmpR (op_neD hu) (pv 11) (pe_lst pa_nil) (nomark _))))) (pss_one (ps_ret pe_bl)) pss_nil))))))))))))))))))
      (pss_one (ps_ret pe_bl)))),?_⟩
    refine ⟨3,rfl,by decide,by decide,?_⟩
    refine comp_known0 (known_range 0 3) [some (.ref a)] 1 (by decide) (fun i acc H'=>Same H H'∧acc.length = i∧∀ v∈acc,BkAt H' v) ⟨Same.refl _,rfl,by simp⟩ (fun i acc H' _ h=>⟨trivial,by rw [h.2.1]; exact Nat.le_refl _⟩) ?_ ?_
    · rintro i x acc H1 ys Nx hN hx hy ⟨sm,hal,hac⟩
      obtain ⟨hi,rfl⟩:=range_item hx
      obtain ⟨y',rfl⟩:=ys1L hy
      refine ⟨_,rfl,_,rfl,_,_,rfl,rfl,.inl ⟨by decide,by decide⟩,a,ns,40 * i,2,3,rfl,sm.seq ha,hl,by decide,by decide,by decide,by decide,fun p bk H2 s2 hp l1 l2 hn=>?_⟩
      refine hN _ _ [some (.int i)] rfl ⟨sm.trans s2,by rw [List.length_append,hal]; rfl,fun v hv=>?_⟩
      rcases List.mem_append.mp hv with z | z
      · exact (hac v z).same s2
      · rw [List.mem_singleton.mp z]; exact ⟨p,bk,rfl,hp,l1,l2,hn⟩
    rintro xs H1 ⟨sm1,hxl,hxs⟩ l hl0
    have hxl3:xs.length = 3:=hxl
    clear hxl
    have u1:Same H1 (upd H1 l (.lst xs)):=Same.upd1 hl0
    have hl1:upd H1 l (.lst xs) l = some (.lst xs):=upd_same
    have hxs1:∀ v∈xs,BkAt (upd H1 l (.lst xs)) v:=fun v hv=>(hxs v hv).same u1
    generalize upd H1 l (.lst xs) = H2 at u1 hl1 hxs1
    refine ⟨_,rfl,a,ns,150,3,rfl,(sm1.trans u1).seq ha,hl,by decide,by decide,fun od H3 hod s3=>⟨_,_,rfl,rfl,?_⟩⟩
    have hl3:=s3 _ _ hl1
    have hxs3:∀ v∈xs,BkAt H3 v:=fun v hv=>(hxs1 v hv).same s3
    clear hxs1 hl1 u1 sm1 hl0 hxs s3
    obtain ⟨o,eo⟩:∃ o:Nat,o = 1 + od:=⟨_,rfl⟩
    have eo':(1 + (od:Int)) = (o:Int):=by omega
    have ho1:1≤o:=by omega
    have ho3:o≤3:=by omega
    have bk_:∀ {bk:List S},Sb bk→Bk bk o:=fun h=>⟨h.isb,ho1,ho3⟩
    refine ⟨_,rfl,l,rfl,⟨_,.of hl3⟩,?_⟩
    refine for_known (known_list K l xs) (fun i σ G=>(∃ x3 x4 x5 x6 x7 x8 x9 x10 x11:Option V,σ = [some (.ref a),some (.ref l),some (.int (o:Int)),x3,x4,x5,x6,x7,x8,x9,x10,x11])∧Same H3 G)
      ⟨⟨none,none,none,none,none,none,none,none,none,by rw [← eo']; rfl⟩,Same.refl _⟩ (fun i σ G _ h=>.of (h.2 _ _ hl3)) ?_ ?_
    · rintro i v σ G Nx hN hv ⟨⟨x3,x4,x5,x6,x7,x8,x9,x10,x11,rfl⟩,sG⟩
      obtain ⟨p1,bk1,rfl,hp1,sb1⟩:=(hxs3 v (List.mem_of_getElem? hv)).same sG
      clear hv
      refine ⟨_,rfl,_,rfl,_,rfl,p1,p1,bk1,bk1,o,rfl,hp1,hp1,bk_ sb1,bk_ sb1,fun r G1 hr1 s1=>⟨_,rfl,?_⟩⟩
      rw [lack_self hr1]
      refine iteF ?_
      refine ⟨_,rfl,_,rfl,_,rfl,p1,p1,bk1,bk1,o,rfl,s1 _ _ hp1,s1 _ _ hp1,bk_ sb1,bk_ sb1,fun r' G2 hr2 s2=>⟨_,rfl,?_⟩⟩
      rw [lack_self hr2]
      refine iteF ?_
      have sG2:=sG.trans (s1.trans s2)
      have hp2:=s2 _ _ (s1 _ _ hp1)
      clear hr1 hr2 s1 s2 hp1 r r' sG G1
      refine ⟨_,rfl,l,rfl,⟨_,.of (sG2 _ _ hl3)⟩,?_⟩
      refine for_known (known_list K l xs) (fun i σ G=>(∃ x4 x5 x6 x7 x8 x9 x10 x11:Option V,σ = [some (.ref a),some (.ref l),some (.int (o:Int)),some (.ref p1),x4,x5,x6,x7,x8,x9,x10,x11])∧Same G2 G)
        ⟨⟨_,_,_,_,_,_,_,_,rfl⟩,Same.refl _⟩ (fun i σ G _ h=>.of (h.2 _ _ (sG2 _ _ hl3))) ?_ ?_
      · rintro j u σ G3 Nx2 hN2 hu ⟨⟨x4,x5,x6,x7,x8,x9,x10,x11,rfl⟩,sG3⟩
        obtain ⟨p2,bk2,rfl,hq2,sb2⟩:=(hxs3 u (List.mem_of_getElem? hu)).same (sG2.trans sG3)
        clear hu
        have hq1:=sG3 _ _ hp2
        have isbm:isBk (bk1 ++ bk2):=⟨by rw [List.length_append]; have:=sb1.lo; omega,by rw [List.length_append]; have:=sb1.hi; have:=sb2.hi; omega,fun x hx=>by
          rcases List.mem_append.mp hx with z | z
          · exact (sb1.nm x z).1
          · exact (sb2.nm x z).1⟩
        have bkm:Bk (bk1 ++ bk2) o:=⟨isbm,ho1,ho3⟩
        have in1:∀ x∈bk1,x∈bk1 ++ bk2:=fun x hx=>List.mem_append_left _ hx
        have in2:∀ x∈bk2,x∈bk1 ++ bk2:=fun x hx=>List.mem_append_right _ hx
        have p64:(pairsB o (bk1 ++ bk2)).length < 64:=by
          have e:pairsB o (bk1 ++ bk2) = pairsB o bk1 ++ pairsB o bk2:=List.flatMap_append
          rw [e,List.length_append]
          have:=sb1.len o; have:=sb2.len o
          omega
        have l64a:(pairsB o bk1).length < 64:=by have:=sb1.len o; omega
        have l64b:(pairsB o bk2).length < 64:=by have:=sb2.len o; omega
        refine ⟨_,rfl,_,rfl,p1,p2,bk1,bk2,rfl,hq1,hq2,sb1.isb,sb2.isb,by have:=sb1.hi; have:=sb2.hi; omega,fun m G4 s4 hm=>?_⟩
        refine ⟨_,rfl,_,rfl,_,rfl,m,p1,bk1 ++ bk2,bk1,o,rfl,hm,s4 _ _ hq1,bkm,bk_ sb1,fun r G5 hr5 s5=>⟨_,rfl,?_⟩⟩
        rw [lack_more in1 hr5]
        refine iteF ?_
        refine ⟨_,rfl,_,rfl,_,rfl,m,p2,bk1 ++ bk2,bk2,o,rfl,s5 _ _ hm,s5 _ _ (s4 _ _ hq2),bkm,bk_ sb2,fun r' G6 hr6 s6=>⟨_,rfl,?_⟩⟩
        rw [lack_more in2 hr6]
        refine iteF ?_
        have t6:Same G3 G6:=s4.trans (s5.trans s6)
        have hm6:=s6 _ _ (s5 _ _ hm)
        clear hr5 hr6 r r' hm s4 s5 s6 G4 G5
        refine ⟨_,rfl,_,rfl,_,rfl,m,p1,bk1 ++ bk2,bk1,o,rfl,hm6,t6 _ _ hq1,bkm,bk_ sb1,p64,fun es q G7 hes s7 hq=>?_⟩
        refine ⟨_,rfl,_,rfl,p1,bk1,o,rfl,(t6.trans s7) _ _ hq1,bk_ sb1,l64a,fun tb lt ys G8 htb s8 hlt0 hlt rps=>?_⟩
        refine ⟨lt,rfl,⟨_,.of hlt⟩,?_⟩
        have htl:ys.length = tb.length:=by have:=rps.length; simpa using this.symm
        have htb10:tb.length≤10:=Nat.le_trans (tab_len htb) (sb1.len o)
        refine comp_known0 (known_list K lt ys) [] 2 (by omega) (fun i acc H'=>Same G8 H'∧acc = ((tb.take i).map (·.1)).map sv) ⟨Same.refl _,rfl⟩ (fun i acc H' _ h=>⟨.of (h.1 _ _ hlt),by rw [h.2,List.length_map,List.length_map,List.length_take]; omega⟩) ?_ ?_
        · rintro i x acc H' yy Nx3 hN3 hx hy ⟨sm,rfl⟩
          obtain ⟨y1,y2,rfl⟩:=ys2 hy
          obtain ⟨r0,at',ar,us,ep,rfl,hsq,har,rpr⟩:=rp_tb (Reps.same sm _ _ rps) hx
          have hi:i < tb.length:=(List.getElem?_eq_some_iff.mp ep).1
          refine ⟨at',[sv r0.1,.ref ar],rfl,hsq,rfl,_,_,rfl,_,_,rfl,rfl,_,rfl,hN3 _ _ [_,_] rfl ⟨sm,?_⟩⟩
          rw [List.take_succ_eq_append_getElem hi,(List.getElem?_eq_some_iff.mp ep).2,List.map_append,List.map_append]; rfl
        rintro acc G9 ⟨s9,rfl⟩ D hD
        rw [htl,List.take_length]
        have e1:=ends_own in1 hes htb
        have u9:=Same.upd1 (o:=.lst ((tb.map (·.1)).map sv)) hD
        have okE:∀ x∈es,∀ c∈x,c≤122:=fun x hx=>by
          obtain ⟨_,l',hl'⟩:=(hes.mem x).mp hx
          exact end_ok (bk_ sb1) hl'
        refine ⟨_,_,strs_rep (L:=es) ((s8.trans (s9.trans u9)) _ _ hq),strs_rep (L:=es) (by rw [e1]; exact upd_same),strs_lay okE,strs_lay okE,_,rfl,ite_ne (strs_can okE) ?_⟩
        have t9:Same G3 (upd G9 D (.lst ((tb.map (·.1)).map sv))):=t6.trans (s7.trans (s8.trans (s9.trans u9)))
        generalize upd G9 D (.lst ((tb.map (·.1)).map sv)) = G10 at t9
        clear u9 s9 s8 s7 hD rps hlt hlt0 htb htl htb10 e1 okE hes hq t6 hm6 es q G7 G8 G9 D tb lt ys G6
        refine ⟨_,rfl,_,rfl,_,rfl,p1,p2,bk1,bk2,o,rfl,t9 _ _ hq1,t9 _ _ hq2,bk_ sb1,bk_ sb2,l64a,fun es1 q1 G11 hes1 s11 hq11=>?_⟩
        have t11:=t9.trans s11
        refine ⟨_,rfl,_,rfl,_,rfl,p2,p1,bk2,bk1,o,rfl,t11 _ _ hq2,t11 _ _ hq1,bk_ sb2,bk_ sb1,l64b,fun es2 q2 G12 hes2 s12 hq12=>?_⟩
        have e2:=ends_sym hes1 hes2
        have ok1:∀ x∈es1,∀ c∈x,c≤122:=fun x hx=>by
          obtain ⟨_,l',hl'⟩:=(hes1.mem x).mp hx
          exact end_ok (bk_ sb2) hl'
        refine ⟨_,_,strs_rep (L:=es1) (s12 _ _ hq11),strs_rep (L:=es1) (by rw [e2]; exact hq12),strs_lay ok1,strs_lay ok1,_,rfl,ite_ne (strs_can ok1) ?_⟩
        have t12:=t11.trans s12
        clear t11 t9 s11 s12 hq11 hq12 e2 ok1 hes1 hes2
        refine ⟨_,rfl,_,rfl,_,rfl,p1,p2,bk1,bk2,o,rfl,t12 _ _ hq1,t12 _ _ hq2,bk_ sb1,bk_ sb2,fun r G13 hr13 s13=>?_⟩
        have t13:=t12.trans s13
        refine ⟨_,rfl,_,rfl,_,rfl,_,rfl,p1,p2,bk1,bk2,o,rfl,t13 _ _ hq1,t13 _ _ hq2,bk_ sb1,bk_ sb2,fun r' G14 hr14 s14=>?_⟩
        have e3:V.bl (decide (optS r = V.non)) = V.bl r'.isNone:=by
          rw [IsLack.uniq hr14 hr13]
          cases r <;> rfl
        refine ⟨rfl,_,rfl,iteNS e3 ?_⟩
        have t14:=t13.trans s14
        clear t13 t12 s13 s14 hr14 e3 r'
        have lp:∀ t,r = some t→(1≤t.length∧t.length≤8∧Mk (pairsB o bk2) o t∧¬ Mk (pairsB o bk1) o t):=fun t e=>by subst e; exact hr13.1
        refine next_of ?_
        dsimp only
        refine tSeq_absL (fun σ' H'=>∃ (sl:Addr),σ' = [some (.ref a),some (.ref l),some (.int (o:Int)),some (.ref p1),some (.ref p2),some (.ref m),some (optS r),some (.ref sl),x8,x9,x10,x11]∧Same G14 H'∧H' sl = some (.lst (r.toList.map sv))) ?cont fun N hNN=>?main
        case main =>
          cases r with
          | none =>
            refine ⟨_,rfl,_,rfl,iteF ⟨by show 0≤sizeLine; decide,fun sl hsl=>hNN _ _ ⟨sl,rfl,Same.upd1 hsl,upd_same⟩⟩⟩
          | some t =>
            refine ⟨_,rfl,_,rfl,iteT ⟨_,rfl,by show 1≤sizeLine; decide,fun sl hsl=>hNN _ _ ⟨sl,rfl,Same.upd1 hsl,upd_same⟩⟩⟩
        case cont =>
          rintro σ' GA ⟨sl,rfl,s15,hsl⟩
          have tA:=t14.trans s15
          have hrl:r.toList.length≤1:=by cases r <;> simp
          clear s15 t14
          have memr:∀ {i:Nat} {x:V},(r.toList.map sv)[i]? = some x→∃ t,x = sv t∧r = some t:=fun {i x} hx=>by
            rw [List.getElem?_map] at hx
            cases ez:r.toList[i]? with
            | none=>rw [ez] at hx; cases hx
            | some t =>
              rw [ez] at hx
              exact ⟨t,(Option.some.inj hx).symm,Option.mem_toList.mp (List.mem_of_getElem? ez)⟩
          have ebl:∀ (b:Bool) (i:Nat),(List.replicate i b).map V.bl ++ [V.bl b] = (List.replicate (i + 1) b).map V.bl:=fun b i=>by
            rw [List.replicate_succ',List.map_append]; rfl
          refine ⟨_,rfl,sl,rfl,⟨_,.of hsl⟩,?_⟩
          refine comp_known0 (known_list K sl (r.toList.map sv)) [some (.ref p1),some (.int (o:Int))] 1 (by rw [List.length_map]; omega) (fun i acc G=>Same GA G∧acc = (List.replicate i false).map V.bl) ⟨Same.refl _,rfl⟩ (fun i acc G _ h=>⟨.of (h.1 _ _ hsl),by rw [h.2,List.length_map,List.length_replicate]; exact Nat.le_refl _⟩) ?_ ?_
          · rintro i x acc G ys Nx3 hN3 hx hy ⟨sm,rfl⟩
            obtain ⟨y',rfl⟩:=ys1L hy
            obtain ⟨t,rfl,e⟩:=memr hx
            refine ⟨_,rfl,_,rfl,_,rfl,p1,bk1,o,t,rfl,sm _ _ (tA _ _ hq1),sb1.fit sb2 ho1 ho3 (lp t e).2.2.1 (lp t e).1 (lp t e).2.1,fun G' s'=>hN3 _ _ [_] rfl ⟨sm.trans s',?_⟩⟩
            rw [decide_eq_false fun z=>(lp t e).2.2.2 (share_iff.mp z)]
            exact ebl false i
          rintro acc GB ⟨sB,rfl⟩ D hD
          rw [List.length_map]
          refine ⟨by show 1≤sizeLine; decide,fun f0 hf0=>?_⟩
          have v0:Same GB (upd GB D (.lst ((List.replicate r.toList.length false).map V.bl))):=Same.upd1 hD
          have v1:Same (upd GB D (.lst ((List.replicate r.toList.length false).map V.bl))) (upd (upd GB D (.lst ((List.replicate r.toList.length false).map V.bl))) f0 (.lst [V.bl false])):=Same.upd1 hf0
          refine ⟨_,rfl,sl,_,rfl,.inl (.of ((sB.trans (v0.trans v1)) _ _ hsl)),f0,_,[V.bl false],rfl,rfl,upd_same,by rw [List.length_map]; omega,by rw [List.length_map]; omega,by rw [List.length_map,sizeLine_eq]; show 1 * (r.toList.length:Int).toNat≤_; omega,fun pl hpl=>?_⟩
          have v2:=Same.upd1 (o:=.lst (List.replicate ((r.toList.map sv).length:Int).toNat [V.bl false]).flatten) hpl
          have en:((r.toList.map sv).length:Int).toNat = r.toList.length:=by rw [List.length_map]; omega
          refine ⟨_,_,bools_rep (bs:=List.replicate r.toList.length false) ((v1.trans v2) _ _ upd_same),bools_rep (bs:=List.replicate r.toList.length false) (by rw [upd_same,en,rep_flatB]),bools_lay.1,bools_lay.1,_,rfl,ite_ne bools_lay.2 ?_⟩
          have tC:=tA.trans (sB.trans (v0.trans (v1.trans v2)))
          have hsl1:=(sB.trans (v0.trans (v1.trans v2))) _ _ hsl
          generalize upd (upd (upd GB D (.lst ((List.replicate r.toList.length false).map V.bl))) f0 (.lst [V.bl false])) pl (.lst (List.replicate ((r.toList.map sv).length:Int).toNat [V.bl false]).flatten) = GC at tC hsl1
          clear v0 v1 v2 hpl hf0 hD sB GB D f0 pl en
          refine ⟨_,rfl,sl,rfl,⟨_,.of hsl1⟩,?_⟩
          refine comp_known0 (known_list K sl (r.toList.map sv)) [some (.ref p2),some (.int (o:Int))] 1 (by rw [List.length_map]; omega) (fun i acc G=>Same GC G∧acc = (List.replicate i true).map V.bl) ⟨Same.refl _,rfl⟩ (fun i acc G _ h=>⟨.of (h.1 _ _ hsl1),by rw [h.2,List.length_map,List.length_replicate]; exact Nat.le_refl _⟩) ?_ ?_
          · rintro i x acc G ys Nx3 hN3 hx hy ⟨sm,rfl⟩
            obtain ⟨y',rfl⟩:=ys1L hy
            obtain ⟨t,rfl,e⟩:=memr hx
            refine ⟨_,rfl,_,rfl,_,rfl,p2,bk2,o,t,rfl,sm _ _ (tC _ _ hq2),sb2.fit sb2 ho1 ho3 (lp t e).2.2.1 (lp t e).1 (lp t e).2.1,fun G' s'=>hN3 _ _ [_] rfl ⟨sm.trans s',?_⟩⟩
            rw [decide_eq_true (share_iff.mpr (lp t e).2.2.1)]
            exact ebl true i
          rintro acc GB ⟨sB,rfl⟩ D hD
          rw [List.length_map]
          refine ⟨by show 1≤sizeLine; decide,fun f0 hf0=>?_⟩
          have v0:Same GB (upd GB D (.lst ((List.replicate r.toList.length true).map V.bl))):=Same.upd1 hD
          have v1:Same (upd GB D (.lst ((List.replicate r.toList.length true).map V.bl))) (upd (upd GB D (.lst ((List.replicate r.toList.length true).map V.bl))) f0 (.lst [V.bl true])):=Same.upd1 hf0
          refine ⟨_,rfl,sl,_,rfl,.inl (.of ((sB.trans (v0.trans v1)) _ _ hsl1)),f0,_,[V.bl true],rfl,rfl,upd_same,by rw [List.length_map]; omega,by rw [List.length_map]; omega,by rw [List.length_map,sizeLine_eq]; show 1 * (r.toList.length:Int).toNat≤_; omega,fun pl hpl=>?_⟩
          have v2:=Same.upd1 (o:=.lst (List.replicate ((r.toList.map sv).length:Int).toNat [V.bl true]).flatten) hpl
          have en:((r.toList.map sv).length:Int).toNat = r.toList.length:=by rw [List.length_map]; omega
          refine ⟨_,_,bools_rep (bs:=List.replicate r.toList.length true) ((v1.trans v2) _ _ upd_same),bools_rep (bs:=List.replicate r.toList.length true) (by rw [upd_same,en,rep_flatB]),bools_lay.1,bools_lay.1,_,rfl,ite_ne bools_lay.2 ?_⟩
          have tE:=tC.trans (sB.trans (v0.trans (v1.trans v2)))
          have hsl2:=(sB.trans (v0.trans (v1.trans v2))) _ _ hsl1
          generalize upd (upd (upd GB D (.lst ((List.replicate r.toList.length true).map V.bl))) f0 (.lst [V.bl true])) pl (.lst (List.replicate ((r.toList.map sv).length:Int).toNat [V.bl true]).flatten) = GE at tE hsl2
          clear v0 v1 v2 hpl hf0 hD sB GB D f0 pl en
          refine next_of ?_
          dsimp only
          refine tSeq_absL (fun σ' G=>(∃ y8 y9:Option V,σ' = [some (.ref a),some (.ref l),some (.int (o:Int)),some (.ref p1),some (.ref p2),some (.ref m),some (optS r),some (.ref sl),y8,y9,x10,x11])∧Same GE G) ?cont2 fun N2 hN2x=>?main2
          case main2 =>
            have abz2:Abz bk2:=fun x hx c hc=>(sb2.nm x hx).2.2 c hc
            rcases hrc:r with _ | t
            · subst hrc
              have hup:∀ n:Nat,1≤n→(n:Int) < 5→n≤4∧n < upTo none:=fun n h1 h5=>⟨by omega,by show n < 9; omega⟩
              refine ⟨_,rfl,_,rfl,iteT ⟨5,9,rfl,1,5,rfl,⟨by decide,by decide,by decide,by decide⟩,?_⟩⟩
              refine for_known (known_range 1 _) (fun i σ G=>(∃ y8 y9:Option V,σ = [some (.ref a),some (.ref l),some (.int (o:Int)),some (.ref p1),some (.ref p2),some (.ref m),some (optS none),some (.ref sl),y8,y9,x10,x11])∧Same GE G)
                ⟨⟨_,_,rfl⟩,Same.refl _⟩ (fun _ _ _ _ _=>trivial) ?_ ?_
              · rintro i z σ' G Nx3 hN3 hz ⟨⟨y8,y9,rfl⟩,sG'⟩
                obtain ⟨n,rfl,hn1,hnE⟩:=rng_item hz
                obtain ⟨hn4,hnu⟩:=hup n hn1 hnE
                clear hz hnE
                have tG:=tE.trans sG'
                refine ⟨_,rfl,_,rfl,_,rfl,p2,bk2,o,n,rfl,tG _ _ hq2,bk_ sb2,abz2,l64b,hn1,by omega,fun al AL G17 s17 hal0 hal aAL hALl=>?_⟩
                obtain ⟨aA1,aA2⟩:=aAL.made hn1
                have hAL:AL.length≤81:=Nat.le_trans hALl (Nat.le_trans (Nat.pow_le_pow_right (by decide) hn4) (by decide))
                refine ⟨al,rfl,⟨_,.of hal⟩,?_⟩
                refine comp_nilK (known_list K al (AL.map sv)) [some (.ref p1),some (.int (o:Int))] (by rw [List.length_map]; omega) (fun G5 s5=>.of (s5 _ _ hal)) (fun k0 z G5 Z hz s5 hZ=>?_) (fun G5 s5 D2 hD2=>?_)
                · rw [List.getElem?_map] at hz
                  cases ez:AL[k0]? with
                  | none=>rw [ez] at hz; cases hz
                  | some x =>
                  rw [ez] at hz
                  have hz2:z = sv x:=(Option.some.inj hz).symm
                  subst hz2
                  have hm2:=(aA2 x).mp (List.mem_of_getElem? ez)
                  have hm1:=lack_short hr13 hn1 (by omega) hnu hm2
                  refine ⟨_,rfl,_,rfl,_,rfl,p1,bk1,o,x,rfl,(tG.trans (s17.trans s5)) _ _ hq1,sb1.fit sb2 ho1 ho3 hm2.2 (by rw [hm2.1]; exact hn1) (by rw [hm2.1]; omega),fun G6 s6=>⟨_,rfl,?_⟩⟩
                  rw [decide_eq_true (share_iff.mpr hm1.2)]
                  exact hZ _ s6
                have w0:Same G5 (upd G5 D2 (.lst [])):=Same.upd1 hD2
                refine ⟨_,rfl,by show 0≤sizeLine; decide,fun e1' he1'=>?_⟩
                have w1:Same (upd G5 D2 (.lst [])) (upd (upd G5 D2 (.lst [])) e1' (.lst [])):=Same.upd1 he1'
                refine ⟨.list [],.list [],⟨D2,[],rfl,.of (w1 _ _ upd_same),rfl⟩,⟨e1',[],rfl,.of upd_same,rfl⟩,rfl,rfl,_,rfl,ite_ne rfl ?_⟩
                have s18:=s17.trans (s5.trans (w0.trans w1))
                generalize upd (upd G5 D2 (.lst [])) e1' (.lst []) = G18 at s18
                clear w0 w1 hD2 he1' s5 s17 hal hal0 G17
                have tH:=tG.trans s18
                refine ⟨_,rfl,_,rfl,_,rfl,p1,bk1,o,n,rfl,tH _ _ hq1,bk_ sb1,hn1,by omega,fun M1 G19 s19 hM1=>?_⟩
                refine ⟨_,rfl,_,rfl,_,rfl,p2,bk2,o,n,rfl,(tH.trans s19) _ _ hq2,bk_ sb2,hn1,by omega,fun M2 G20 s20 hM2=>?_⟩
                have hle:=many_le aA1 aA2 (fun x hx=>lack_short hr13 hn1 (by omega) hnu hx) hM1 hM2
                exact ⟨_,_,rfl,rfl,_,rfl,iteDF (by omega) (hN3 _ _ ⟨⟨_,_,rfl⟩,sG'.trans (s18.trans (s19.trans s20))⟩)⟩
              · rintro σ' G ⟨⟨y8,y9,rfl⟩,sG'⟩
                exact hN2x _ _ ⟨⟨_,_,rfl⟩,sG'⟩
            · subst hrc
              have hE:∃ E:Int,E = (if ((tx t).length:Int) < 5 then ((tx t).length:Int) else 5)∧0≤E∧E≤5∧E≤t.length:=⟨_,rfl,by rw [tx_len]; split <;> omega,by rw [tx_len]; split <;> omega,by rw [tx_len]; split <;> omega⟩
              obtain ⟨E,eE,hE0,hE5,hEt⟩:=hE
              have hup:∀ n:Nat,1≤n→(n:Int) < E→n≤4∧n < upTo (some t):=fun n h1 h5=>⟨by omega,by show n < t.length; omega⟩
              refine ⟨_,rfl,_,rfl,iteF ⟨_,rfl,tx t,rfl,by rw [tx_len,sizeLine_eq]; have:=(lp t rfl).2.1; omega,5,_,rfl,1,E,by rw [eE],⟨by decide,by decide,by omega,by omega⟩,?_⟩⟩
              refine for_known (known_range 1 _) (fun i σ G=>(∃ y8 y9:Option V,σ = [some (.ref a),some (.ref l),some (.int (o:Int)),some (.ref p1),some (.ref p2),some (.ref m),some (optS (some t)),some (.ref sl),y8,y9,x10,x11])∧Same GE G)
                ⟨⟨_,_,rfl⟩,Same.refl _⟩ (fun _ _ _ _ _=>trivial) ?_ ?_
              · rintro i z σ' G Nx3 hN3 hz ⟨⟨y8,y9,rfl⟩,sG'⟩
                obtain ⟨n,rfl,hn1,hnE⟩:=rng_item hz
                obtain ⟨hn4,hnu⟩:=hup n hn1 hnE
                clear hz hnE
                have tG:=tE.trans sG'
                refine ⟨_,rfl,_,rfl,_,rfl,p2,bk2,o,n,rfl,tG _ _ hq2,bk_ sb2,abz2,l64b,hn1,by omega,fun al AL G17 s17 hal0 hal aAL hALl=>?_⟩
                obtain ⟨aA1,aA2⟩:=aAL.made hn1
                have hAL:AL.length≤81:=Nat.le_trans hALl (Nat.le_trans (Nat.pow_le_pow_right (by decide) hn4) (by decide))
                refine ⟨al,rfl,⟨_,.of hal⟩,?_⟩
                refine comp_nilK (known_list K al (AL.map sv)) [some (.ref p1),some (.int (o:Int))] (by rw [List.length_map]; omega) (fun G5 s5=>.of (s5 _ _ hal)) (fun k0 z G5 Z hz s5 hZ=>?_) (fun G5 s5 D2 hD2=>?_)
                · rw [List.getElem?_map] at hz
                  cases ez:AL[k0]? with
                  | none=>rw [ez] at hz; cases hz
                  | some x =>
                  rw [ez] at hz
                  have hz2:z = sv x:=(Option.some.inj hz).symm
                  subst hz2
                  have hm2:=(aA2 x).mp (List.mem_of_getElem? ez)
                  have hm1:=lack_short hr13 hn1 (by omega) hnu hm2
                  refine ⟨_,rfl,_,rfl,_,rfl,p1,bk1,o,x,rfl,(tG.trans (s17.trans s5)) _ _ hq1,sb1.fit sb2 ho1 ho3 hm2.2 (by rw [hm2.1]; exact hn1) (by rw [hm2.1]; omega),fun G6 s6=>⟨_,rfl,?_⟩⟩
                  rw [decide_eq_true (share_iff.mpr hm1.2)]
                  exact hZ _ s6
                have w0:Same G5 (upd G5 D2 (.lst [])):=Same.upd1 hD2
                refine ⟨_,rfl,by show 0≤sizeLine; decide,fun e1' he1'=>?_⟩
                have w1:Same (upd G5 D2 (.lst [])) (upd (upd G5 D2 (.lst [])) e1' (.lst [])):=Same.upd1 he1'
                refine ⟨.list [],.list [],⟨D2,[],rfl,.of (w1 _ _ upd_same),rfl⟩,⟨e1',[],rfl,.of upd_same,rfl⟩,rfl,rfl,_,rfl,ite_ne rfl ?_⟩
                have s18:=s17.trans (s5.trans (w0.trans w1))
                generalize upd (upd G5 D2 (.lst [])) e1' (.lst []) = G18 at s18
                clear w0 w1 hD2 he1' s5 s17 hal hal0 G17
                have tH:=tG.trans s18
                refine ⟨_,rfl,_,rfl,_,rfl,p1,bk1,o,n,rfl,tH _ _ hq1,bk_ sb1,hn1,by omega,fun M1 G19 s19 hM1=>?_⟩
                refine ⟨_,rfl,_,rfl,_,rfl,p2,bk2,o,n,rfl,(tH.trans s19) _ _ hq2,bk_ sb2,hn1,by omega,fun M2 G20 s20 hM2=>?_⟩
                have hle:=many_le aA1 aA2 (fun x hx=>lack_short hr13 hn1 (by omega) hnu hx) hM1 hM2
                exact ⟨_,_,rfl,rfl,_,rfl,iteDF (by omega) (hN3 _ _ ⟨⟨_,_,rfl⟩,sG'.trans (s18.trans (s19.trans s20))⟩)⟩
              · rintro σ' G ⟨⟨y8,y9,rfl⟩,sG'⟩
                exact hN2x _ _ ⟨⟨_,_,rfl⟩,sG'⟩
          case cont2 =>
            rintro σ' GF ⟨⟨y8,y9,rfl⟩,sF⟩
            have tF:=tE.trans sF
            clear sF hsl2 hsl1 hsl tE tC tA memr ebl hrl
            have hH3:Same H3 GF:=sG2.trans (sG3.trans tF)
            have hlF:=hH3 _ _ hl3
            refine ⟨_,rfl,l,rfl,⟨_,.of hlF⟩,?_⟩
            refine comp_known (known_list K l xs) [some (.ref p2),some (.int (o:Int))] 1 (by omega) (fun i acc G=>Same GF G∧acc.length≤i∧∀ v∈acc,∃ (p:Addr) (bk:List S),v = .ref p∧GF p = some (.tup (bkV bk))∧Sb bk∧IsLack (pairsB o bk2) (pairsB o bk) o none) ⟨Same.refl _,Nat.le_refl _,by simp⟩ (fun i acc G _ h=>⟨.of (h.1 _ _ hlF),h.2.1⟩) ?_ ?_
            · rintro i x acc G ys Nx3 hN3 hx hy ⟨sm,hal,hac⟩
              obtain ⟨y',rfl⟩:=ys1L hy
              obtain ⟨p3,bk3,rfl,hp3,sb3⟩:=(hxs3 x (List.mem_of_getElem? hx)).same hH3
              refine ⟨_,rfl,_,rfl,_,rfl,p2,p3,bk2,bk3,o,rfl,(tF.trans sm) _ _ hq2,sm _ _ hp3,bk_ sb2,bk_ sb3,fun r3 G20 hr20 s20=>⟨_,rfl,?_⟩⟩
              cases r3 with
              | some t3=>exact iteF (hN3 _ _ [_] rfl ⟨sm.trans s20,by omega,hac⟩)
              | none =>
                refine iteT ⟨_,rfl,hN3 _ _ [_] rfl ⟨sm.trans s20,by rw [List.length_append]; show _ + 1≤_; omega,fun v hv=>?_⟩⟩
                rcases List.mem_append.mp hv with z | z
                · exact hac v z
                · rw [List.mem_singleton.mp z]; exact ⟨p3,bk3,rfl,hp3,sb3,hr20⟩
            rintro th GH ⟨sH,hthl,hth⟩ D hD
            have u1:Same GH (upd GH D (.lst th)):=Same.upd1 hD
            have hD1:upd GH D (.lst th) D = some (.lst th):=upd_same
            have tI:=sH.trans u1
            generalize upd GH D (.lst th) = GI at u1 hD1 tI
            clear u1 hD sH
            refine ⟨_,rfl,D,rfl,⟨_,.of hD1⟩,?_⟩
            refine comp_known (known_list K D th) [some (.ref p1),some (.int (o:Int))] 1 (by omega) (fun i acc G=>Same GI G∧acc.length≤i∧(r = none→acc = [])) ⟨Same.refl _,Nat.le_refl _,fun _=>rfl⟩ (fun i acc G _ h=>⟨.of (h.1 _ _ hD1),h.2.1⟩) ?_ ?_
            · rintro i x acc G ys Nx3 hN3 hx hy ⟨sm,hal,hac⟩
              obtain ⟨y',rfl⟩:=ys1L hy
              obtain ⟨p3,bk3,rfl,hp3,sb3,h23⟩:=hth x (List.mem_of_getElem? hx)
              refine ⟨_,rfl,_,rfl,_,rfl,p1,p3,bk1,bk3,o,rfl,(tF.trans (tI.trans sm)) _ _ hq1,(tI.trans sm) _ _ hp3,bk_ sb1,bk_ sb3,fun r3 G20 hr20 s20=>⟨_,rfl,?_⟩⟩
              cases r3 with
              | none=>exact iteF (hN3 _ _ [_] rfl ⟨sm.trans s20,by omega,hac⟩)
              | some t3 =>
                refine iteT ⟨_,rfl,hN3 _ _ [_] rfl ⟨sm.trans s20,by rw [List.length_append]; show _ + 1≤_; omega,fun hn=>?_⟩⟩
                subst hn
                exact absurd (lack_trans hr13 h23 hr20) (by simp)
            rintro lo GJ ⟨sJ,hlol,hlo⟩ E1 hE1
            have u2:Same GJ (upd GJ E1 (.lst lo)):=Same.upd1 hE1
            have hE2:upd GJ E1 (.lst lo) E1 = some (.lst lo):=upd_same
            have tK:=tF.trans (tI.trans (sJ.trans u2))
            generalize upd GJ E1 (.lst lo) = GK at u2 hE2 tK
            cases r with
            | some t =>
              refine ⟨_,rfl,_,rfl,iteF (iteF ?_)⟩
              exact hN2 _ _ ⟨⟨_,_,_,_,_,_,_,_,rfl⟩,sG3.trans tK⟩
            | none =>
              have e0:=hlo rfl
              subst e0
              refine ⟨_,rfl,_,rfl,iteT ⟨_,rfl,by show 0≤sizeLine; decide,fun e1 he1=>?_⟩⟩
              have w1:Same GK (upd GK e1 (.lst [])):=Same.upd1 he1
              exact ⟨.list [],.list [],⟨E1,[],rfl,.of (w1 _ _ hE2),rfl⟩,⟨e1,[],rfl,.of upd_same,rfl⟩,rfl,rfl,_,rfl,ite_ne rfl (hN2 _ _ ⟨⟨_,_,_,_,_,_,_,_,rfl⟩,sG3.trans (tK.trans w1)⟩)⟩
      · rintro σ G3 ⟨⟨x4,x5,x6,x7,x8,x9,x10,x11,rfl⟩,sG3⟩
        exact hN _ _ ⟨⟨_,_,_,_,_,_,_,_,_,rfl⟩,sG2.trans sG3⟩
    · rintro σ G ⟨⟨x3,x4,x5,x6,x7,x8,x9,x10,x11,rfl⟩,sG⟩
      exact k _
end
end Kn.Ln
end
section
set_option Elab.async false
set_option linter.all false
set_option maxRecDepth 100000
set_option maxHeartbeats 4000000
namespace Kn
open PySem L2 Ln
def Has (K:PySem.W.Frag) (x:Str) (st:Stmt) (ps:List Str):Prop :=
  ∃ (f:Addr) (fd:FuncData),PySem.W.nsIn K mainGlobals x = some (some (.ref f))∧Fun K x x st f fd∧PySem.W.keepIn K (.ref f) = true∧Binds K fd ps []
theorem has_mk {K:PySem.W.Frag} {x:Str} {st:Stmt} {f:Addr} {oc kV dc pm cd ct:Value} {od an:Option Addr} {sl:Array (Option Value)} (ps:List Str)
    (hb:∀ (fd:FuncData),Fun K x x st f fd→Binds K fd ps [])
    (a:PySem.W.nsIn K mainGlobals x = some (some (.ref f))) (l:K.lookup f = some ⟨oc,od,.func (PySem.W.fnOf x x (defArgs st) (defBody st) (defScope st) .none kV dc pm an cd ct),sl⟩) (c:PySem.W.codeIn K cd x = true) (k:PySem.W.keepIn K (.ref f) = true):Has K x st ps :=
  ⟨f,_,a,fun_mk (st:=st) l c k,k,hb _ (fun_mk (st:=st) l c k)⟩
structure Top (K:PySem.W.Frag):Prop where
  is_name:Has K "is_name" sIsName ["thing"]
  is_book:Has K "is_book" sIsBook ["thing"]
  is_whole:Has K "is_whole" sIsWhole ["thing", "least", "most"]
  is_order:Has K "is_order" sIsOrder ["thing"]
  need_book:Has K "need_book" sNeedBook ["thing"]
  need_order:Has K "need_order" sNeedOrder ["thing"]
  need_whole:Has K "need_whole" sNeedWhole ["thing", "least", "most"]
  need_name:Has K "need_name" sNeedName ["thing"]
  end_of:Has K "end_of" sEnd ["text", "order"]
  ends:Has K "ends_and_letters" sEnds ["name", "order"]
  rows:Has K "counted_rows" sRows ["book", "order"]
  table:Has K "table" sTable ["book", "order"]
  gcd:Has K "greatest_divisor" sGcd ["one", "other"]
  low:Has K "lowest" sLow ["up", "down"]
  times:Has K "times" sTimes ["one", "other"]
  is_less:Has K "is_less" sLess ["one", "other"]
  part_in:Has K "part_in" sPart ["row", "letter"]
  stepsR:Has K "steps_by_rows" sStepsR ["rows", "order", "name"]
  shareR:Has K "share_by_rows" sShareR ["rows", "order", "name"]
  share:Has K "share" sShare ["book", "order", "name"]
  makes:Has K "makes" sMakes ["book", "order", "name"]
  even:Has K "even_parts" sEven ["rows"]
  left:Has K "left_of" sLeft ["weight", "part"]
  follow:Has K "may_follow" sFollow ["letter", "wanted"]
  nexts:Has K "next_sums" sNextS ["parts", "order", "sums", "wanted"]
  suma:Has K "sum_along" sSumA ["parts", "order", "weight", "pattern"]
  needlen:Has K "need_length" sNeedLen ["thing"]
  hmr:Has K "how_many_by_rows" sHMR ["rows", "order", "length"]
  hm:Has K "how_many" sHM ["book", "order", "length"]
  lt:Has K "letters_towards" sLT ["row", "end", "order", "targets"]
  ce:Has K "closing_ends" sCE ["rows", "order", "length"]
  lng:Has K "lengthened" sLng ["rows", "order", "texts", "targets"]
  am:Has K "all_made" sAM ["book", "order", "length"]
  mixed:Has K "mixed" sMixed ["one", "other"]
  shared:Has K "shared_ends" sShared ["one", "other", "order"]
  nextf:Has K "next_firsts" sNext ["first_rows", "rows", "order", "firsts"]
  alone_:Has K "ends_by_rows_alone" sAlone ["first_rows", "rows", "state"]
  lack:Has K "lacking" sLack ["one", "other", "order"]
  allm:Has K "makes_all" sAllM ["one", "other", "order"]
  cell:Has K "_law_cell" sCell ["_law_script", "_law_k"]
  drawn:Has K "_law_drawn" sDrawn ["_law_script", "_law_k", "_law_many"]
  lname:Has K "_law_name" sName ["_law_script", "_law_at", "_law_most"]
  lbook:Has K "_law_book" sBook ["_law_script", "_law_at", "_law_many", "_law_most"]
  letters:∃ t,PySem.W.nsIn K mainGlobals "LETTERS" = some (some (.str letters t))
  ml:∃ t,PySem.W.nsIn K mainGlobals "MOST_LETTERS" = some (some (.int 8 t))
  mn:∃ t,PySem.W.nsIn K mainGlobals "MOST_NAMES" = some (some (.int 8 t))
  mo:∃ t,PySem.W.nsIn K mainGlobals "MOST_ORDER" = some (some (.int 3 t))
  ib:PySem.W.kitOne K (.type "int") (.type "bool") = some false
  nought:∃ a,PySem.W.nsIn K mainGlobals "NOUGHT" = some (some (.ref a))∧∀ H,SqT K H a [.int 0,.int 1]
  whole:∃ a,PySem.W.nsIn K mainGlobals "WHOLE" = some (some (.ref a))∧∀ H,SqT K H a [.int 1,.int 1]
  anyC:∃ t,PySem.W.nsIn K mainGlobals "ANY" = some (some (.str "" t))
  eb:∃ C,∀ (h:Heap) (mg:Str→Option Value),K.In h→h.Ns mainGlobals mg→XCls K mg "NoBook" C
  eo:∃ C,∀ (h:Heap) (mg:Str→Option Value),K.In h→h.Ns mainGlobals mg→XCls K mg "NoOrder" C
  kitf:KitF K
  zlen:PySem.W.nsIn K mainGlobals "len" = some none
  zrange:PySem.W.nsIn K mainGlobals "range" = some none
  zall:PySem.W.nsIn K mainGlobals "all" = some none
  zisinstance:PySem.W.nsIn K mainGlobals "isinstance" = some none
  zstr:PySem.W.nsIn K mainGlobals "str" = some none
  ztuple:PySem.W.nsIn K mainGlobals "tuple" = some none
  zint:PySem.W.nsIn K mainGlobals "int" = some none
  zbool:PySem.W.nsIn K mainGlobals "bool" = some none
  zsorted:PySem.W.nsIn K mainGlobals "sorted" = some none
  zsum:PySem.W.nsIn K mainGlobals "sum" = some none
  zmin:PySem.W.nsIn K mainGlobals "min" = some none
  zdict:PySem.W.nsIn K mainGlobals "dict" = some none
theorem letters_eq:(Str.ofString "abcdefghijklmnopqrstuvwxyz") = letters:=by decide +kernel
theorem lets_mk {K:PySem.W.Frag} {t:Tok} (h:PySem.W.nsIn K mainGlobals "LETTERS" = some (some (.str (Str.ofString "abcdefghijklmnopqrstuvwxyz") t))):∃ t,PySem.W.nsIn K mainGlobals "LETTERS" = some (some (.str letters t)):=by
  rw [letters_eq] at h; exact ⟨t,h⟩
theorem int_mk {K:PySem.W.Frag} {x:Str} {i:Int} {t:Tok} (h:PySem.W.nsIn K mainGlobals x = some (some (.int i t))):∃ t,PySem.W.nsIn K mainGlobals x = some (some (.int i t)):=⟨t,h⟩
theorem two_mk {K:PySem.W.Frag} {x:Str} {a:Addr} {i j:Int} {t t':Tok} {n:Nat} {dd:Option Addr} {sl:Array (Option Value)} (h:PySem.W.nsIn K mainGlobals x = some (some (.ref a)))
    (l:K.lookup a = some ⟨.type "tuple",dd,.seq #[.int i t,.int j t'] n,sl⟩):∃ a,PySem.W.nsIn K mainGlobals x = some (some (.ref a))∧∀ H,SqT K H a [.int i,.int j] :=
  ⟨a,h,fun H=>.inr ⟨_,_,_,l,rfl,rfl,by show 2≤sizeLine; decide,.cons ⟨t,rfl⟩ (.cons ⟨t',rfl⟩ .nil)⟩⟩
section
variable {P:Program} {w:World} {K:PySem.W.Frag} {mg:Str→Option Value} {base:Heap} {h:Heap}
theorem cal_of {x:Str} {st:Stmt} {ps:List Str} {k:Nat} {sp:Sp} (X:K.In h) (G:h.Ns mainGlobals mg) (H:Has K x st ps) (ok:∀ (f:Addr) (fd:FuncData),Fun K x x st f fd→FnOk P w K mg base CX0 k f fd ps sp):Cal P w K mg base k x ps sp:=by
  obtain ⟨f,fd,a,F,kp,b⟩:=H
  exact ⟨f,fd,ok f fd F,PySem.W.mg_of X G a,kp,b⟩
theorem cal_ofR {x:Str} {st:Stmt} {ps:List Str} {k:Nat} {sp:Sp} (X:K.In h) (G:h.Ns mainGlobals mg) (H:Has K x st ps) (ok:∀ (f:Addr) (fd:FuncData),Fun K x x st f fd→FnOk P w K mg base (CXr P w) k f fd ps sp):CalR P w K mg base k x ps sp:=by
  obtain ⟨f,fd,a,F,kp,b⟩:=H
  exact ⟨f,fd,ok f fd F,PySem.W.mg_of X G a,kp,b⟩
theorem law_mk (X:K.In h) (G:h.Ns mainGlobals mg) (T:Top K) {f:Addr} {fd:FuncData} (F:Fun K "law" "law" sLaw f fd):FnOk P w K mg base CX0 8 f fd ["_law_script"] (spLaw K):=by
  have B:Blt mg:=⟨PySem.W.mg_none_of X G T.zlen,PySem.W.mg_none_of X G T.zrange,PySem.W.mg_none_of X G T.zall,PySem.W.mg_none_of X G T.zisinstance,PySem.W.mg_none_of X G T.zstr,PySem.W.mg_none_of X G T.ztuple,PySem.W.mg_none_of X G T.zint,PySem.W.mg_none_of X G T.zbool,PySem.W.mg_none_of X G T.zsorted,PySem.W.mg_none_of X G T.zsum,PySem.W.mg_none_of X G T.zmin⟩
  have C:Cst K mg:=⟨let ⟨t,e⟩:=T.letters; ⟨t,PySem.W.mg_of X G e⟩,let ⟨t,e⟩:=T.ml; ⟨t,PySem.W.mg_of X G e⟩,let ⟨t,e⟩:=T.mn; ⟨t,PySem.W.mg_of X G e⟩,let ⟨t,e⟩:=T.mo; ⟨t,PySem.W.mg_of X G e⟩,T.ib⟩
  have C2:Cst2 K mg:=⟨let ⟨a,e,q⟩:=T.nought; ⟨a,PySem.W.mg_of X G e,q⟩,let ⟨a,e,q⟩:=T.whole; ⟨a,PySem.W.mg_of X G e,q⟩⟩
  have hA:∃ t,mg "ANY" = some (.str "" t):=let ⟨t,e⟩:=T.anyC; ⟨t,PySem.W.mg_of X G e⟩
  have hdi:=PySem.W.mg_none_of X G T.zdict
  obtain ⟨nb,hnb⟩:=T.eb
  obtain ⟨no,hno⟩:=T.eo
  have KF:=T.kitf
  have cEnd:=cal_of (P:=P) (w:=w) (base:=base) X G T.end_of fun f fd F=>ok_end F
  have cEnds:=cal_of (P:=P) (w:=w) (base:=base) X G T.ends fun f fd F=>ok_ends F B cEnd
  have cIsName:=cal_of (P:=P) (w:=w) (base:=base) X G T.is_name fun f fd F=>ok_isname F B C
  have cIsBook:=cal_of (P:=P) (w:=w) (base:=base) X G T.is_book fun f fd F=>ok_isbook F B C cIsName
  have cIsWhole:=cal_of (P:=P) (w:=w) (base:=base) X G T.is_whole fun f fd F=>ok_iswhole F B C
  have cIsOrder:=cal_of (P:=P) (w:=w) (base:=base) X G T.is_order fun f fd F=>ok_isorder F C cIsWhole
  have cNB:=cal_of (P:=P) (w:=w) (base:=base) X G T.need_book fun f fd F=>ok_needbook F cIsBook
  have cNO:=cal_of (P:=P) (w:=w) (base:=base) X G T.need_order fun f fd F=>ok_needorder F cIsOrder
  have cNW:=cal_of (P:=P) (w:=w) (base:=base) X G T.need_whole fun f fd F=>ok_needwhole F cIsWhole
  have cNN:=cal_of (P:=P) (w:=w) (base:=base) X G T.need_name fun f fd F=>ok_needname F cIsName
  have cRows:=cal_of (P:=P) (w:=w) (base:=base) X G T.rows fun f fd F=>ok_rows F cEnds
  have N:Needs P w K mg base:=⟨cNB,cNO,cNN,cRows⟩
  have cTb:=cal_of (P:=P) (w:=w) (base:=base) X G T.table fun f fd F=>ok_table F B N
  have cGcdG:=cal_of (P:=P) (w:=w) (base:=base) X G T.gcd fun f fd F=>ok_gcdG F
  have cGcd:=Ln.Cal.imp (sp':=spGcd) cGcdG fun h=>gcdG_imp h
  have cLowG:=cal_of (P:=P) (w:=w) (base:=base) X G T.low fun f fd F=>ok_lowG F cGcdG
  have cLow:=Ln.Cal.imp (sp':=spLow) cLowG fun h=>lowG_imp h
  have cTimes:=cal_of (P:=P) (w:=w) (base:=base) X G T.times fun f fd F=>ok_times F cLow
  have cLess:=cal_of (P:=P) (w:=w) (base:=base) X G T.is_less fun f fd F=>ok_less F
  have cPartR:=cal_of (P:=P) (w:=w) (base:=base) X G T.part_in fun f fd F=>ok_partR F B C2 cLow
  have cPart:=Ln.Cal.imp (sp':=spPart K) cPartR fun h=>partR_imp h
  have cStR:=cal_of (P:=P) (w:=w) (base:=base) X G T.stepsR fun f fd F=>ok_stepsR F cEnds cPart
  have cShR:=cal_of (P:=P) (w:=w) (base:=base) X G T.shareR fun f fd F=>ok_shareR F C2 cStR cTimes
  have cSh:=cal_of (P:=P) (w:=w) (base:=base) X G T.share fun f fd F=>ok_share F N cShR
  have cMk:=cal_of (P:=P) (w:=w) (base:=base) X G T.makes fun f fd F=>ok_makes F C2 cSh cLess
  have cEv:=cal_of (P:=P) (w:=w) (base:=base) X G T.even fun f fd F=>ok_even F C2 hdi
  have cLe:=cal_of (P:=P) (w:=w) (base:=base) X G T.left fun f fd F=>ok_left F
  have cFo:=cal_of (P:=P) (w:=w) (base:=base) X G T.follow fun f fd F=>ok_follow F hA
  have cNx:=cal_of (P:=P) (w:=w) (base:=base) X G T.nexts fun f fd F=>ok_nextS F cFo cEnd cLe
  have cSu:=cal_of (P:=P) (w:=w) (base:=base) X G T.suma fun f fd F=>ok_sumA F B C2 cNx cLe
  have cNL:=cal_of (P:=P) (w:=w) (base:=base) X G T.needlen fun f fd F=>ok_needlen F C cNW
  have NL:NeedL P w K mg base:=⟨cNB,cNO,cNL,cRows⟩
  have cHMR:=cal_of (P:=P) (w:=w) (base:=base) X G T.hmr fun f fd F=>ok_HMR F hA cEv cSu
  have cHM:=cal_of (P:=P) (w:=w) (base:=base) X G T.hm fun f fd F=>ok_HM F NL cHMR
  have cLT:=cal_of (P:=P) (w:=w) (base:=base) X G T.lt fun f fd F=>ok_LT F B cEnd
  have cCE:=cal_of (P:=P) (w:=w) (base:=base) X G T.ce fun f fd F=>ok_CE F B cLT
  have cLng:=cal_of (P:=P) (w:=w) (base:=base) X G T.lng fun f fd F=>ok_Lng F cLT cEnd
  have cAM:=cal_of (P:=P) (w:=w) (base:=base) X G T.am fun f fd F=>ok_AM F B NL cCE cLng
  have cIsNameT:=cal_of (P:=P) (w:=w) (base:=base) X G T.is_name fun f fd F=>ok_isnameT F B C KF
  have cIsBookT:=cal_of (P:=P) (w:=w) (base:=base) X G T.is_book fun f fd F=>ok_isbookT F B C KF cIsNameT
  have cIsWholeT:=cal_of (P:=P) (w:=w) (base:=base) X G T.is_whole fun f fd F=>ok_iswholeT F B C KF
  have cIsOrderT:=cal_of (P:=P) (w:=w) (base:=base) X G T.is_order fun f fd F=>ok_isorderT F C cIsWholeT
  have cNBR:=cal_ofR (P:=P) (w:=w) (base:=base) X G T.need_book fun f fd F=>ok_needbookR F (hnb h mg X G) cIsBookT
  have cNOR:=cal_ofR (P:=P) (w:=w) (base:=base) X G T.need_order fun f fd F=>ok_needorderR F (hno h mg X G) cIsOrderT
  have cMix:=cal_ofR (P:=P) (w:=w) (base:=base) X G T.mixed fun f fd F=>ok_mixed F cNBR
  have cShd:=cal_ofR (P:=P) (w:=w) (base:=base) X G T.shared fun f fd F=>ok_shared F B cNBR cNOR cRows
  have cNxf:=cal_of (P:=P) (w:=w) (base:=base) X G T.nextf fun f fd F=>ok_next F B cEnd
  have cAl:=cal_of (P:=P) (w:=w) (base:=base) X G T.alone_ fun f fd F=>ok_alone F
  have cLk:=cal_ofR (P:=P) (w:=w) (base:=base) X G T.lack fun f fd F=>ok_lack F B C cNBR cNOR cRows cNxf cAl
  have cAm:=cal_ofR (P:=P) (w:=w) (base:=base) X G T.allm fun f fd F=>ok_allM F cLk
  have cCell:=cal_of (P:=P) (w:=w) (base:=base) X G T.cell fun f fd F=>ok_cell F B
  have cDrawn:=cal_of (P:=P) (w:=w) (base:=base) X G T.drawn fun f fd F=>ok_drawn F cCell
  have cName:=cal_of (P:=P) (w:=w) (base:=base) X G T.lname fun f fd F=>ok_name F B cDrawn
  have cBook:=cal_of (P:=P) (w:=w) (base:=base) X G T.lbook fun f fd F=>ok_book F B cDrawn cName
  exact ok_law F B ⟨cDrawn,cBook,cAM,cHM,cTb,cMk,mixG cMix,lackG cLk,allG cAm,sharedG cShd⟩
end
theorem all_mk {l:PySem.W.OpenLaw} {w:World} {K:PySem.W.Frag} {h:Heap} {mg:Str→Option Value} {fa f4:Addr} (X:K.In h) (G:h.Ns mainGlobals mg) (hfa:mg "law" = some (.ref fa))
    {od4 an4:Option Addr} {sl4:Array (Option Value)} {oc4 kV4 dc4 pm4 cd4 ct4:Value} (T:Top K)
    (a4:PySem.W.nsIn K mainGlobals "law" = some (some (.ref f4))) (l4:K.lookup f4 = some ⟨oc4,od4,.func (PySem.W.fnOf "law" "law" (defArgs sLaw) (defBody sLaw) (defScope sLaw) .none kV4 dc4 pm4 an4 cd4 ct4),sl4⟩) (c4:PySem.W.codeIn K cd4 "law" = true) (k4:PySem.W.keepIn K (.ref f4) = true) :
    ∃ fd:FuncData,(∀ (s:Shared) (v:Value),BindsTo s fd ⟨[v],[]⟩ [("_law_script",v)])∧∀ base:Heap,K.In base→base.Ns mainGlobals mg→FnOk l.prog w K mg base CX0 8 fa fd ["_law_script"] (spLaw K):=by
  have e:=hfa.symm.trans (PySem.W.mg_of X G a4)
  cases e
  have F4:=fun_mk (st:=sLaw) l4 c4 k4
  exact ⟨PySem.W.fnOf "law" "law" (defArgs sLaw) (defBody sLaw) (defScope sLaw) .none kV4 dc4 pm4 an4 cd4 ct4,fun s v=>.of_eq rfl,fun base _ _=>law_mk X G T F4⟩
theorem walk {l:PySem.W.OpenLaw} {q:Program} {loose:List Str} {XP:(Str→Option Value)→Heap→Prop} {YP:World→Heap→Prop} {d:DefRec} {K:Params→PySem.W.Frag} (hn:l.most = some 63) (hdf:d.params.defaults = [])
    (hY:∀ (w:World) (h:Heap),YP w h→(K w.params).In h)
    (F:∀ (w:World) (mg:Str→Option Value) (fa:Addr) (h:Heap),(K w.params).In h→h.Ns mainGlobals mg→mg d.name = some (.ref fa) →
      ∃ fd:FuncData,(∀ (s:Shared) (u:Value),BindsTo s fd ⟨[u],[]⟩ [("_law_script",u)])∧∀ base:Heap,(K w.params).In base→base.Ns mainGlobals mg→FnOk l.prog w (K w.params) mg base CX0 8 fa fd ["_law_script"] (spLaw (K w.params))) :
    PySem.W.WalkO q loose XP YP l.row.toRowW d [] (fun f vs=>PySem.call f vs) :=
  L2.walk_of (n:=63) (k:=8) (x := "_law_script") (CX:=fun _=>CX0) (sp:=fun w=>spLaw (K w.params)) hn (by decide) hdf ⟨rfl,by decide,by decide⟩ hY F (fun _ _ a ns hl _ hS=>⟨a,ns,rfl,hS,hl,fun _=>rfl⟩) fun _ _ _ _ _ z=>z
end Kn
end
section
set_option Elab.async false
set_option linter.all false
open PySem PySem.W PyProof.Rows
set_option maxRecDepth 100000 in
set_option maxHeartbeats 0 in
theorem PySem.Challenge.cw_kinnames_k82_whole_together_holds : PySem.Challenge.rw_kinnames_k82_whole_together.Holds := by
  w_on; o_law
  refine PySem.W.holds_open (q:=Kn.kq) (loose:=Kn.klo) (Xt:=fun s=>xlAt Kn.kq [] s && recOk [] s) (XP:=XL Kn.kq []) (Yf:=Hook.obs (kHook Kn.kfr Kn.kas Kn.kas_e)) (Ya:=Hook.val (kHook Kn.kfr Kn.kas Kn.kas_e)) (YP:=Hook.says (kHook Kn.kfr Kn.kas Kn.kas_e)) (N:=5076) Kn.hl (Hook.of (kHook Kn.kfr Kn.kas Kn.kas_e)) (Hook.keeps (kHook Kn.kfr Kn.kas Kn.kas_e)) (fun s e=>xl_of s (Bool.and_eq_true_iff.mp e).1) XL.keeps (by rfl) (by rfl) (by rfl) (fun s e=>recFacts_of (Bool.and_eq_true_iff.mp e).2) (by rfl) (by first | assumption | decide +kernel) (by decide +kernel) ⟨rfl,rfl,rfl,rfl,rfl,by decide +kernel⟩ ?hw ?hc
  (case hw=>w_witness2)
  k_fill
  refine Kn.walk (l:=PySem.Challenge.rw_kinnames_k82_whole_together) rfl rfl (fun w h Y=>PySem.W.kIn_of Y) ?F
  case F =>
    intro w mg fa h KX G hmg
    refine' Kn.all_mk KX G hmg ?T ?a4 ?l4 ?c4 ?k4
    (case T =>
      refine' ⟨?is_name,?is_book,?is_whole,?is_order,?need_book,?need_order,?need_whole,?need_name,?end_of,?ends,?rows,?table,?gcd,?low,?times,?is_less,?part_in,?stepsR,?shareR,?share,?makes,?even,?left,?follow,?nexts,?suma,?needlen,?hmr,?hm,?lt,?ce,?lng,?am,?mixed,?shared,?nextf,?alone_,?lack,?allm,?cell,?drawn,?lname,?lbook,?letters,?ml,?mn,?mo,?ib,?nought,?whole,?anyC,?eb,?eo,?kitf,?zlen,?zrange,?zall,?zisinstance,?zstr,?ztuple,?zint,?zbool,?zsorted,?zsum,?zmin,?zdict⟩
      (case is_name=>refine' Kn.has_mk _ (fun fd F=>F.binds fun _ _ _ _ _ _ us hl=>match us,hl with | [_],_=>rfl) ?kna ?knl ?knc ?knk; (case kna=>k_is); (case knl=>k_is); (case knc=>k_is); (case knk=>k_is))
      (case is_book=>refine' Kn.has_mk _ (fun fd F=>F.binds fun _ _ _ _ _ _ us hl=>match us,hl with | [_],_=>rfl) ?kna ?knl ?knc ?knk; (case kna=>k_is); (case knl=>k_is); (case knc=>k_is); (case knk=>k_is))
      (case is_whole=>refine' Kn.has_mk _ (fun fd F=>F.binds fun _ _ _ _ _ _ us hl=>match us,hl with | [_,_,_],_=>rfl) ?kna ?knl ?knc ?knk; (case kna=>k_is); (case knl=>k_is); (case knc=>k_is); (case knk=>k_is))
      (case is_order=>refine' Kn.has_mk _ (fun fd F=>F.binds fun _ _ _ _ _ _ us hl=>match us,hl with | [_],_=>rfl) ?kna ?knl ?knc ?knk; (case kna=>k_is); (case knl=>k_is); (case knc=>k_is); (case knk=>k_is))
      (case need_book=>refine' Kn.has_mk _ (fun fd F=>F.binds fun _ _ _ _ _ _ us hl=>match us,hl with | [_],_=>rfl) ?kna ?knl ?knc ?knk; (case kna=>k_is); (case knl=>k_is); (case knc=>k_is); (case knk=>k_is))
      (case need_order=>refine' Kn.has_mk _ (fun fd F=>F.binds fun _ _ _ _ _ _ us hl=>match us,hl with | [_],_=>rfl) ?kna ?knl ?knc ?knk; (case kna=>k_is); (case knl=>k_is); (case knc=>k_is); (case knk=>k_is))
      (case need_whole=>refine' Kn.has_mk _ (fun fd F=>F.binds fun _ _ _ _ _ _ us hl=>match us,hl with | [_,_,_],_=>rfl) ?kna ?knl ?knc ?knk; (case kna=>k_is); (case knl=>k_is); (case knc=>k_is); (case knk=>k_is))
      (case need_name=>refine' Kn.has_mk _ (fun fd F=>F.binds fun _ _ _ _ _ _ us hl=>match us,hl with | [_],_=>rfl) ?kna ?knl ?knc ?knk; (case kna=>k_is); (case knl=>k_is); (case knc=>k_is); (case knk=>k_is))
      (case end_of=>refine' Kn.has_mk _ (fun fd F=>F.binds fun _ _ _ _ _ _ us hl=>match us,hl with | [_,_],_=>rfl) ?kna ?knl ?knc ?knk; (case kna=>k_is); (case knl=>k_is); (case knc=>k_is); (case knk=>k_is))
      (case ends=>refine' Kn.has_mk _ (fun fd F=>F.binds fun _ _ _ _ _ _ us hl=>match us,hl with | [_,_],_=>rfl) ?kna ?knl ?knc ?knk; (case kna=>k_is); (case knl=>k_is); (case knc=>k_is); (case knk=>k_is))
      (case rows=>refine' Kn.has_mk _ (fun fd F=>F.binds fun _ _ _ _ _ _ us hl=>match us,hl with | [_,_],_=>rfl) ?kna ?knl ?knc ?knk; (case kna=>k_is); (case knl=>k_is); (case knc=>k_is); (case knk=>k_is))
      (case table=>refine' Kn.has_mk _ (fun fd F=>F.binds fun _ _ _ _ _ _ us hl=>match us,hl with | [_,_],_=>rfl) ?kna ?knl ?knc ?knk; (case kna=>k_is); (case knl=>k_is); (case knc=>k_is); (case knk=>k_is))
      (case gcd=>refine' Kn.has_mk _ (fun fd F=>F.binds fun _ _ _ _ _ _ us hl=>match us,hl with | [_,_],_=>rfl) ?kna ?knl ?knc ?knk; (case kna=>k_is); (case knl=>k_is); (case knc=>k_is); (case knk=>k_is))
      (case low=>refine' Kn.has_mk _ (fun fd F=>F.binds fun _ _ _ _ _ _ us hl=>match us,hl with | [_,_],_=>rfl) ?kna ?knl ?knc ?knk; (case kna=>k_is); (case knl=>k_is); (case knc=>k_is); (case knk=>k_is))
      (case times=>refine' Kn.has_mk _ (fun fd F=>F.binds fun _ _ _ _ _ _ us hl=>match us,hl with | [_,_],_=>rfl) ?kna ?knl ?knc ?knk; (case kna=>k_is); (case knl=>k_is); (case knc=>k_is); (case knk=>k_is))
      (case is_less=>refine' Kn.has_mk _ (fun fd F=>F.binds fun _ _ _ _ _ _ us hl=>match us,hl with | [_,_],_=>rfl) ?kna ?knl ?knc ?knk; (case kna=>k_is); (case knl=>k_is); (case knc=>k_is); (case knk=>k_is))
      (case part_in=>refine' Kn.has_mk _ (fun fd F=>F.binds fun _ _ _ _ _ _ us hl=>match us,hl with | [_,_],_=>rfl) ?kna ?knl ?knc ?knk; (case kna=>k_is); (case knl=>k_is); (case knc=>k_is); (case knk=>k_is))
      (case stepsR=>refine' Kn.has_mk _ (fun fd F=>F.binds fun _ _ _ _ _ _ us hl=>match us,hl with | [_,_,_],_=>rfl) ?kna ?knl ?knc ?knk; (case kna=>k_is); (case knl=>k_is); (case knc=>k_is); (case knk=>k_is))
      (case shareR=>refine' Kn.has_mk _ (fun fd F=>F.binds fun _ _ _ _ _ _ us hl=>match us,hl with | [_,_,_],_=>rfl) ?kna ?knl ?knc ?knk; (case kna=>k_is); (case knl=>k_is); (case knc=>k_is); (case knk=>k_is))
      (case share=>refine' Kn.has_mk _ (fun fd F=>F.binds fun _ _ _ _ _ _ us hl=>match us,hl with | [_,_,_],_=>rfl) ?kna ?knl ?knc ?knk; (case kna=>k_is); (case knl=>k_is); (case knc=>k_is); (case knk=>k_is))
      (case makes=>refine' Kn.has_mk _ (fun fd F=>F.binds fun _ _ _ _ _ _ us hl=>match us,hl with | [_,_,_],_=>rfl) ?kna ?knl ?knc ?knk; (case kna=>k_is); (case knl=>k_is); (case knc=>k_is); (case knk=>k_is))
      (case even=>refine' Kn.has_mk _ (fun fd F=>F.binds fun _ _ _ _ _ _ us hl=>match us,hl with | [_],_=>rfl) ?kna ?knl ?knc ?knk; (case kna=>k_is); (case knl=>k_is); (case knc=>k_is); (case knk=>k_is))
      (case left=>refine' Kn.has_mk _ (fun fd F=>F.binds fun _ _ _ _ _ _ us hl=>match us,hl with | [_,_],_=>rfl) ?kna ?knl ?knc ?knk; (case kna=>k_is); (case knl=>k_is); (case knc=>k_is); (case knk=>k_is))
      (case follow=>refine' Kn.has_mk _ (fun fd F=>F.binds fun _ _ _ _ _ _ us hl=>match us,hl with | [_,_],_=>rfl) ?kna ?knl ?knc ?knk; (case kna=>k_is); (case knl=>k_is); (case knc=>k_is); (case knk=>k_is))
      (case nexts=>refine' Kn.has_mk _ (fun fd F=>F.binds fun _ _ _ _ _ _ us hl=>match us,hl with | [_,_,_,_],_=>rfl) ?kna ?knl ?knc ?knk; (case kna=>k_is); (case knl=>k_is); (case knc=>k_is); (case knk=>k_is))
      (case suma=>refine' Kn.has_mk _ (fun fd F=>F.binds fun _ _ _ _ _ _ us hl=>match us,hl with | [_,_,_,_],_=>rfl) ?kna ?knl ?knc ?knk; (case kna=>k_is); (case knl=>k_is); (case knc=>k_is); (case knk=>k_is))
      (case needlen=>refine' Kn.has_mk _ (fun fd F=>F.binds fun _ _ _ _ _ _ us hl=>match us,hl with | [_],_=>rfl) ?kna ?knl ?knc ?knk; (case kna=>k_is); (case knl=>k_is); (case knc=>k_is); (case knk=>k_is))
      (case hmr=>refine' Kn.has_mk _ (fun fd F=>F.binds fun _ _ _ _ _ _ us hl=>match us,hl with | [_,_,_],_=>rfl) ?kna ?knl ?knc ?knk; (case kna=>k_is); (case knl=>k_is); (case knc=>k_is); (case knk=>k_is))
      (case hm=>refine' Kn.has_mk _ (fun fd F=>F.binds fun _ _ _ _ _ _ us hl=>match us,hl with | [_,_,_],_=>rfl) ?kna ?knl ?knc ?knk; (case kna=>k_is); (case knl=>k_is); (case knc=>k_is); (case knk=>k_is))
      (case lt=>refine' Kn.has_mk _ (fun fd F=>F.binds fun _ _ _ _ _ _ us hl=>match us,hl with | [_,_,_,_],_=>rfl) ?kna ?knl ?knc ?knk; (case kna=>k_is); (case knl=>k_is); (case knc=>k_is); (case knk=>k_is))
      (case ce=>refine' Kn.has_mk _ (fun fd F=>F.binds fun _ _ _ _ _ _ us hl=>match us,hl with | [_,_,_],_=>rfl) ?kna ?knl ?knc ?knk; (case kna=>k_is); (case knl=>k_is); (case knc=>k_is); (case knk=>k_is))
      (case lng=>refine' Kn.has_mk _ (fun fd F=>F.binds fun _ _ _ _ _ _ us hl=>match us,hl with | [_,_,_,_],_=>rfl) ?kna ?knl ?knc ?knk; (case kna=>k_is); (case knl=>k_is); (case knc=>k_is); (case knk=>k_is))
      (case am=>refine' Kn.has_mk _ (fun fd F=>F.binds fun _ _ _ _ _ _ us hl=>match us,hl with | [_,_,_],_=>rfl) ?kna ?knl ?knc ?knk; (case kna=>k_is); (case knl=>k_is); (case knc=>k_is); (case knk=>k_is))
      (case mixed=>refine' Kn.has_mk _ (fun fd F=>F.binds fun _ _ _ _ _ _ us hl=>match us,hl with | [_,_],_=>rfl) ?kna ?knl ?knc ?knk; (case kna=>k_is); (case knl=>k_is); (case knc=>k_is); (case knk=>k_is))
      (case shared=>refine' Kn.has_mk _ (fun fd F=>F.binds fun _ _ _ _ _ _ us hl=>match us,hl with | [_,_,_],_=>rfl) ?kna ?knl ?knc ?knk; (case kna=>k_is); (case knl=>k_is); (case knc=>k_is); (case knk=>k_is))
      (case nextf=>refine' Kn.has_mk _ (fun fd F=>F.binds fun _ _ _ _ _ _ us hl=>match us,hl with | [_,_,_,_],_=>rfl) ?kna ?knl ?knc ?knk; (case kna=>k_is); (case knl=>k_is); (case knc=>k_is); (case knk=>k_is))
      (case alone_=>refine' Kn.has_mk _ (fun fd F=>F.binds fun _ _ _ _ _ _ us hl=>match us,hl with | [_,_,_],_=>rfl) ?kna ?knl ?knc ?knk; (case kna=>k_is); (case knl=>k_is); (case knc=>k_is); (case knk=>k_is))
      (case lack=>refine' Kn.has_mk _ (fun fd F=>F.binds fun _ _ _ _ _ _ us hl=>match us,hl with | [_,_,_],_=>rfl) ?kna ?knl ?knc ?knk; (case kna=>k_is); (case knl=>k_is); (case knc=>k_is); (case knk=>k_is))
      (case allm=>refine' Kn.has_mk _ (fun fd F=>F.binds fun _ _ _ _ _ _ us hl=>match us,hl with | [_,_,_],_=>rfl) ?kna ?knl ?knc ?knk; (case kna=>k_is); (case knl=>k_is); (case knc=>k_is); (case knk=>k_is))
      (case cell=>refine' Kn.has_mk _ (fun fd F=>F.binds fun _ _ _ _ _ _ us hl=>match us,hl with | [_,_],_=>rfl) ?kna ?knl ?knc ?knk; (case kna=>k_is); (case knl=>k_is); (case knc=>k_is); (case knk=>k_is))
      (case drawn=>refine' Kn.has_mk _ (fun fd F=>F.binds fun _ _ _ _ _ _ us hl=>match us,hl with | [_,_,_],_=>rfl) ?kna ?knl ?knc ?knk; (case kna=>k_is); (case knl=>k_is); (case knc=>k_is); (case knk=>k_is))
      (case lname=>refine' Kn.has_mk _ (fun fd F=>F.binds fun _ _ _ _ _ _ us hl=>match us,hl with | [_,_,_],_=>rfl) ?kna ?knl ?knc ?knk; (case kna=>k_is); (case knl=>k_is); (case knc=>k_is); (case knk=>k_is))
      (case lbook=>refine' Kn.has_mk _ (fun fd F=>F.binds fun _ _ _ _ _ _ us hl=>match us,hl with | [_,_,_,_],_=>rfl) ?kna ?knl ?knc ?knk; (case kna=>k_is); (case knl=>k_is); (case knc=>k_is); (case knk=>k_is))
      (case letters=>refine' Kn.lets_mk ?knq; (case knq=>k_is))
      (case ml=>refine' Kn.int_mk ?knq; (case knq=>k_is))
      (case mn=>refine' Kn.int_mk ?knq; (case knq=>k_is))
      (case mo=>refine' Kn.int_mk ?knq; (case knq=>k_is))
      (case ib=>first | rfl | kernel_rfl | decide +kernel)
      (case nought=>refine' Kn.two_mk ?knq ?knr; (case knq=>k_is); (case knr=>k_is))
      (case whole=>refine' Kn.two_mk ?knq ?knr; (case knq=>k_is); (case knr=>k_is))
      (case anyC=>refine' Kn.Ln.str_mk ?knq; (case knq=>k_is))
      (case eb=>refine' Kn.Ln.xcls_top ?knq ?knr; (case knq=>k_is); (case knr=>first | rfl | kernel_rfl | decide +kernel))
      (case eo=>refine' Kn.Ln.xcls_top ?knq ?knr; (case knq=>k_is); (case knr=>first | rfl | kernel_rfl | decide +kernel))
      (case kitf=>constructor <;> first | rfl | kernel_rfl | decide +kernel)
      (case zlen=>k_is)
      (case zrange=>k_is)
      (case zall=>k_is)
      (case zisinstance=>k_is)
      (case zstr=>k_is)
      (case ztuple=>k_is)
      (case zint=>k_is)
      (case zbool=>k_is)
      (case zsorted=>k_is)
      (case zsum=>k_is)
      (case zmin=>k_is)
      (case zdict=>k_is))
    (case a4=>k_is); (case l4=>k_is); (case c4=>k_is); (case k4=>k_is)
end
