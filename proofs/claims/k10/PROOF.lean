import PyProof.Rows.All
import Wide.All
import OpenK.AllK
import Wide.FinOn
import Lean
import PyProof.EqAt
import PyProof.EqKinds
import PyProof.TupleCall
import PyProof.CompFree
import KE.KSortAsk
import KE.KSortTup
import KE.KRevSl
import PyProof.AttrMissSeq
import KE.KDictOf
import PyProof.StationsW
import PyProof.Rows.Catch
import PyProof.ExcClass3
import PyProof.ExcBaseAll.ValueError
import OpenK.KOwn
import KE.KIsAll
import PyProof.ExcAttrAll.ValueError
import PyProof.ListMulRoad
import PyProof.StrOps2
import PyProof.FactsAll.tuple_2
import KE.KxText
import PySem.Challenge.RW_kinnames_k10_shares
section
namespace L2
open PySem
def inClass (s : Stmt) (j : Nat) : Stmt := match s with
  | .ClassDef _ _ _ body _ _ _ _ _ _ _ => body.getD j (.Pass ⟨0, 0, 0, 0⟩)
  | _ => .Pass ⟨0, 0, 0, 0⟩
def defArgs (s : Stmt) : Arguments := match s with
  | .FunctionDef _ a _ _ _ _ _ _ _ _ => a
  | _ => { posonlyargs := [], args := [], vararg := none, kwonlyargs := [], kw_defaults := [], kwarg := none, defaults := [] }
def defBody (s : Stmt) : List Stmt := match s with
  | .FunctionDef _ _ b _ _ _ _ _ _ _ => b
  | _ => []
def defScope (s : Stmt) : Scope := match s with
  | .FunctionDef _ _ _ _ _ _ sc _ _ _ => sc
  | _ => { kind := .function, names := [], isGenerator := false, isCoroutine := false }
end L2
namespace Kn
open PySem
def top (i : Nat) : Stmt := PySem.Challenge.pw_kinnames_k10_shares.main.body.getD i (.Pass ⟨0, 0, 0, 0⟩)
end Kn
namespace Kn
open PySem PySem.W PyProof.Rows
def topRunT (tb : String → Option Builtin) (p : Program) (w : World) (n₀ : Nat) (ann : Option Value) : Nat → SharedT → Thread → Option SharedT
  | 0, _, _ => none
  | n + 1, s, t => match through t with
    | true => some s
    | false => match stepOk n₀ ann t with
      | false => none
      | true => match stepT (denote tb) p w s t with
        | some (s', t') => topRunT tb p w n₀ ann n s' t'
        | none => none
theorem topRun_of {tb : String → Option Builtin} {p : Program} {w : World} {n₀ : Nat} {ann : Option Value} : ∀ {n : Nat} {s s' : SharedT} {t : Thread}, topRunT tb p w n₀ ann n s t = some s' → topRun tb p w n₀ ann n s.abs t = some s'.abs
  | 0, _, _, _, h => by cases h
  | n + 1, s, s', t, h => by
    unfold topRunT at h
    unfold topRun
    cases he : through t with
    | true => rw [he] at h; cases h; rfl
    | false =>
      rw [he] at h
      cases hk : stepOk n₀ ann t with
      | false => rw [hk] at h; cases h
      | true =>
        rw [hk] at h
        cases hs : stepT (denote tb) p w s t with
        | none => rw [hs] at h; cases h
        | some r => obtain ⟨s₂, t₂⟩ := r; rw [hs] at h; rw [stepT_spec hs]; exact topRun_of h
def insAll : List Obj → Nat → BT → Option BT
  | [], _, T => some T
  | o :: os, n, T => match ((T.ins n o).get n).isSome with
    | true => insAll os (n + 1) (T.ins n o)
    | false => none
theorem insAll_abs {life : Life} : ∀ {os : List Obj} {n : Nat} {T T' : BT}, insAll os n T = some T' → (absHeap T' (n + os.length) life).objs.toList = (absHeap T n life).objs.toList ++ os
  | [], n, T, T', h => by cases h; simp
  | o :: os, n, T, T', h => by
    unfold insAll at h
    cases hi : ((T.ins n o).get n).isSome with
    | false => rw [hi] at h; cases h
    | true =>
      rw [hi] at h
      have h1 := insAll_abs (life := life) h
      have h2 := absHeap_ins (life := life) hi
      have e : n + 1 + os.length = n + (o :: os).length := by rw [List.length_cons]; omega
      rw [← e, h1, h2]
      show ((absHeap T n life).objs.push o).toList ++ os = _
      rw [Array.toList_push, List.append_assoc]; rfl
theorem insAll_of {s : Shared} {T : BT} (h : insAll s.heap.objs.toList 0 .nil = some T) : (SharedT.mk T s.heap.objs.size s.heap.life s.gens s.drawn s.toks s.os).abs = s := by
  have h1 := insAll_abs (life := s.heap.life) h
  have e0 : (absHeap .nil 0 s.heap.life).objs.toList = [] := rfl
  have e1 : 0 + s.heap.objs.toList.length = s.heap.objs.size := by rw [Nat.zero_add]; rfl
  rw [e0, List.nil_append, e1] at h1
  have h2 : absHeap T s.heap.objs.size s.heap.life = s.heap := by
    have h3 : (absHeap T s.heap.objs.size s.heap.life).objs = s.heap.objs := Array.toList_inj.mp h1
    have h4 : (absHeap T s.heap.objs.size s.heap.life).life = s.heap.life := rfl
    generalize absHeap T s.heap.objs.size s.heap.life = A at h3 h4
    cases A
    obtain ⟨⟨o, l⟩, _, _, _, _⟩ := s
    subst h3 h4
    rfl
  unfold SharedT.abs
  dsimp only
  rw [h2]
def topFromT (tb : String → Option Builtin) (p : Program) (w : World) (N : Nat) (s₀ : Shared) (T₀ : SharedT) : Option Shared :=
  match s₀.heap.isNs mainGlobals && s₀.gens.size == 0 with
  | true => (topRunT tb p w s₀.heap.objs.size (s₀.heap.nsMap mainGlobals "__annotations__") N T₀ (topStub p)).bind fun t₁ => match staticsOk (importedModules p.main.body) s₀.heap t₁.abs.heap && namesBound p t₁.abs.heap && gensDone t₁.abs && laidKept s₀.heap t₁.abs.heap with
      | true => some t₁.abs
      | false => none
  | false => none
theorem topFrom_of {tb : String → Option Builtin} {p : Program} {w : World} {N : Nat} {s₀ : Shared} {T₀ : SharedT} {s₁ : Shared} (e : T₀.abs = s₀) (h : topFromT tb p w N s₀ T₀ = some s₁) : topFrom tb p w N s₀ = some s₁ := by
  unfold topFromT at h
  unfold topFrom
  cases hb : s₀.heap.isNs mainGlobals && s₀.gens.size == 0 with
  | false => rw [hb] at h; cases h
  | true =>
    rw [hb] at h
    dsimp only at h ⊢
    obtain ⟨t₁, h1, h2⟩ := Option.bind_eq_some_iff.mp h
    have h3 := topRun_of h1
    rw [e] at h3
    rw [h3]
    exact h2
def openEndsT (tb : String → Option Builtin) (p : Program) (w : World) (N : Nat) : Option Shared := (fencedOpening tb p w N).bind fun s₀ => (insAll s₀.heap.objs.toList 0 .nil).bind fun T => topFromT tb p w N s₀ ⟨T, s₀.heap.objs.size, s₀.heap.life, s₀.gens, s₀.drawn, s₀.toks, s₀.os⟩
theorem openEnds_of {tb : String → Option Builtin} {p : Program} {w : World} {N : Nat} {s₁ : Shared} (h : openEndsT tb p w N = some s₁) : openEnds tb p w N = some s₁ := by
  obtain ⟨s₀, h1, h2⟩ := Option.bind_eq_some_iff.mp h
  obtain ⟨T, h3, h4⟩ := Option.bind_eq_some_iff.mp h2
  unfold openEnds
  rw [h1]
  exact topFrom_of (insAll_of h3) h4
theorem openMap_of {tb : String → Option Builtin} {p : Program} {w : World} {N : Nat} {α : Type} {F : Shared → α} {r : α} (h : (openEndsT tb p w N).map F = some r) : (openEnds tb p w N).map F = some r := by
  obtain ⟨s₁, h1, h2⟩ := Option.map_eq_some_iff.mp h
  rw [openEnds_of h1, Option.map_some, h2]
end Kn
open PySem PySem.W PyProof.Rows
set_option Elab.async false
set_option maxRecDepth 100000
set_option maxHeartbeats 0
namespace Kn
open L2
def kE (P : Params) (x : Str) (t : Nat) (v : Value) : DictEntry := ⟨PyData.keyHash P x, .str x t, v⟩
def kF (s : Stmt) (nm qn : Str) (df kd doc pm : Value) (an : Option Addr) (cd ct : Value) (c : Value) (d : Option Addr) (sl : Array (Option Value)) : Obj :=
  ⟨c, d, .func (PySem.W.fnOf nm qn (defArgs s) (defBody s) (defScope s) df kd doc pm an cd ct), sl⟩
noncomputable def kfr : Params → Frag := fun P => (nat_lit 2, ⟨.none, none, .dict #[] 0, #[]⟩) ::
  (nat_lit 3, ⟨(.type "dict"), none, .dict #[kE P (.ofString "__name__") 165 (.str (.ofString "law_kinnames_k10_shares") 544), kE P (.ofString "__doc__") 166 .none, kE P (.ofString "__package__") 167 .none, kE P (.ofString "__loader__") 168 (.builtin "__main__.__loader__#opaque"), kE P (.ofString "__spec__") 169 .none, kE P (.ofString "__annotations__") 170 (.ref 6), kE P (.ofString "__builtins__") 171 (.ref 4), kE P (.ofString "__file__") 173 (.str (.ofString "/claim/cut.py") 172), kE P (.ofString "__cached__") 174 .none, kE P (.ofString "LikeError") 206 (.ref 24), kE P (.ofString "NoBook") 222 (.ref 37), kE P (.ofString "NoOrder") 238 (.ref 49), kE P (.ofString "NoName") 254 (.ref 61), kE P (.ofString "NoWish") 270 (.ref 73), kE P (.ofString "NoNumber") 286 (.ref 85), kE P (.ofString "NotMade") 302 (.ref 97), kE P (.ofString "TooShort") 318 (.ref 109), kE P (.ofString "Nothing") 334 (.ref 121), kE P (.ofString "LETTERS") 338 (.str (.ofString "abcdefghijklmnopqrstuvwxyz") 337), kE P (.ofString "MOST_LETTERS") 340 (.int (8) 339), kE P (.ofString "MOST_NAMES") 342 (.int (8) 341), kE P (.ofString "MOST_ORDER") 344 (.int (3) 343), kE P (.ofString "is_name") 350 (.ref 128), kE P (.ofString "is_book") 356 (.ref 133), kE P (.ofString "is_whole") 365 (.ref 140), kE P (.ofString "is_order") 372 (.ref 147), kE P (.ofString "need_book") 379 (.ref 154), kE P (.ofString "need_order") 386 (.ref 161), kE P (.ofString "need_name") 393 (.ref 168), kE P (.ofString "end_of") 401 (.ref 175), kE P (.ofString "ends_and_letters") 407 (.ref 180), kE P (.ofString "counted_rows") 420 (.ref 187), kE P (.ofString "NOUGHT") 425 (.ref 188), kE P (.ofString "WHOLE") 428 (.ref 189), kE P (.ofString "greatest_divisor") 437 (.ref 196), kE P (.ofString "lowest") 446 (.ref 203), kE P (.ofString "added") 454 (.ref 210), kE P (.ofString "times") 462 (.ref 217), kE P (.ofString "less") 470 (.ref 224), kE P (.ofString "is_less") 478 (.ref 231), kE P (.ofString "part_in") 486 (.ref 238), kE P (.ofString "steps_by_rows") 492 (.ref 243), kE P (.ofString "share_by_rows") 503 (.ref 250), kE P (.ofString "steps") 512 (.ref 257), kE P (.ofString "share") 521 (.ref 264), kE P (.ofString "makes") 530 (.ref 271), kE P (.ofString "likelier") 543 (.ref 278), kE P (.ofString "_law_cell") 553 (.ref 285), kE P (.ofString "_law_drawn") 563 (.ref 292), kE P (.ofString "_law_name") 569 (.ref 297), kE P (.ofString "_law_book") 581 (.ref 304), kE P (.ofString "_law_counts") 594 (.ref 311), kE P (.ofString "_law_row") 604 (.ref 318), kE P (.ofString "_law_lowest") 614 (.ref 325), kE P (.ofString "_law_share") 620 (.ref 330), kE P (.ofString "_law_sum") 630 (.ref 337), kE P (.ofString "_law_made") 636 (.ref 342), kE P (.ofString "_law_refused") 644 (.ref 349), kE P (.ofString "_law_told") 655 (.ref 356), kE P (.ofString "_law_fractions_fit") 663 (.ref 363), kE P (.ofString "_law_best") 675 (.ref 370), kE P (.ofString "_law_steps") 681 (.ref 375), kE P (.ofString "law") 687 (.ref 380)] 63, #[]⟩) ::
  (nat_lit 23, ⟨(.type "dict"), none, .dict #[kE P (.ofString "__module__") 196 (.str (.ofString "kinnames.errors") 187), kE P (.ofString "__firstlineno__") 200 (.int (2) 199), kE P (.ofString "__static_attributes__") 201 (.ref 22), kE P (.ofString "__weakref__") 203 (.ref 25), kE P (.ofString "__doc__") 204 .none] 3, #[]⟩) ::
  (nat_lit 24, ⟨(.type "type"), none, .cls ⟨(.ofString "LikeError"), [(.type "ValueError")], [(.ref 24), (.type "ValueError"), (.type "Exception"), (.type "BaseException"), (.type "object")], 23, (.ofString "LikeError"), true, [], [(.ref 37), (.ref 49), (.ref 61), (.ref 73), (.ref 85), (.ref 97), (.ref 109), (.ref 121)], false, none, false⟩, #[(some (.ref 15)), none, (some (.str (.ofString "LikeError") 189)), (some (.str (.ofString "LikeError") 197)), (some (.builtin "ValueError.__new__")), (some (.bool true))]⟩) ::
  (nat_lit 25, ⟨(.type "getset_descriptor"), none, .fields #[(.str (.ofString "__weakref__") 202), (.ref 24), (.builtin "ExceptionGroup.__weakref__"), .none], #[]⟩) ::
  (nat_lit 36, ⟨(.type "dict"), none, .dict #[kE P (.ofString "__module__") 214 (.str (.ofString "kinnames.errors") 187), kE P (.ofString "__firstlineno__") 218 (.int (4) 217), kE P (.ofString "__static_attributes__") 219 (.ref 35), kE P (.ofString "__doc__") 220 .none] 2, #[]⟩) ::
  (nat_lit 37, ⟨(.type "type"), none, .cls ⟨(.ofString "NoBook"), [(.ref 24)], [(.ref 37), (.ref 24), (.type "ValueError"), (.type "Exception"), (.type "BaseException"), (.type "object")], 36, (.ofString "NoBook"), true, [], [], false, none, false⟩, #[(some (.ref 28)), none, (some (.str (.ofString "NoBook") 207)), (some (.str (.ofString "NoBook") 215)), (some (.builtin "ValueError.__new__")), (some (.bool true))]⟩) ::
  (nat_lit 48, ⟨(.type "dict"), none, .dict #[kE P (.ofString "__module__") 230 (.str (.ofString "kinnames.errors") 187), kE P (.ofString "__firstlineno__") 234 (.int (6) 233), kE P (.ofString "__static_attributes__") 235 (.ref 47), kE P (.ofString "__doc__") 236 .none] 2, #[]⟩) ::
  (nat_lit 49, ⟨(.type "type"), none, .cls ⟨(.ofString "NoOrder"), [(.ref 24)], [(.ref 49), (.ref 24), (.type "ValueError"), (.type "Exception"), (.type "BaseException"), (.type "object")], 48, (.ofString "NoOrder"), true, [], [], false, none, false⟩, #[(some (.ref 40)), none, (some (.str (.ofString "NoOrder") 223)), (some (.str (.ofString "NoOrder") 231)), (some (.builtin "ValueError.__new__")), (some (.bool true))]⟩) ::
  (nat_lit 60, ⟨(.type "dict"), none, .dict #[kE P (.ofString "__module__") 246 (.str (.ofString "kinnames.errors") 187), kE P (.ofString "__firstlineno__") 250 (.int (8) 249), kE P (.ofString "__static_attributes__") 251 (.ref 59), kE P (.ofString "__doc__") 252 .none] 2, #[]⟩) ::
  (nat_lit 61, ⟨(.type "type"), none, .cls ⟨(.ofString "NoName"), [(.ref 24)], [(.ref 61), (.ref 24), (.type "ValueError"), (.type "Exception"), (.type "BaseException"), (.type "object")], 60, (.ofString "NoName"), true, [], [], false, none, false⟩, #[(some (.ref 52)), none, (some (.str (.ofString "NoName") 239)), (some (.str (.ofString "NoName") 247)), (some (.builtin "ValueError.__new__")), (some (.bool true))]⟩) ::
  (nat_lit 72, ⟨(.type "dict"), none, .dict #[kE P (.ofString "__module__") 262 (.str (.ofString "kinnames.errors") 187), kE P (.ofString "__firstlineno__") 266 (.int (10) 265), kE P (.ofString "__static_attributes__") 267 (.ref 71), kE P (.ofString "__doc__") 268 .none] 2, #[]⟩) ::
  (nat_lit 73, ⟨(.type "type"), none, .cls ⟨(.ofString "NoWish"), [(.ref 24)], [(.ref 73), (.ref 24), (.type "ValueError"), (.type "Exception"), (.type "BaseException"), (.type "object")], 72, (.ofString "NoWish"), true, [], [], false, none, false⟩, #[(some (.ref 64)), none, (some (.str (.ofString "NoWish") 255)), (some (.str (.ofString "NoWish") 263)), (some (.builtin "ValueError.__new__")), (some (.bool true))]⟩) ::
  (nat_lit 84, ⟨(.type "dict"), none, .dict #[kE P (.ofString "__module__") 278 (.str (.ofString "kinnames.errors") 187), kE P (.ofString "__firstlineno__") 282 (.int (12) 281), kE P (.ofString "__static_attributes__") 283 (.ref 83), kE P (.ofString "__doc__") 284 .none] 2, #[]⟩) ::
  (nat_lit 85, ⟨(.type "type"), none, .cls ⟨(.ofString "NoNumber"), [(.ref 24)], [(.ref 85), (.ref 24), (.type "ValueError"), (.type "Exception"), (.type "BaseException"), (.type "object")], 84, (.ofString "NoNumber"), true, [], [], false, none, false⟩, #[(some (.ref 76)), none, (some (.str (.ofString "NoNumber") 271)), (some (.str (.ofString "NoNumber") 279)), (some (.builtin "ValueError.__new__")), (some (.bool true))]⟩) ::
  (nat_lit 96, ⟨(.type "dict"), none, .dict #[kE P (.ofString "__module__") 294 (.str (.ofString "kinnames.errors") 187), kE P (.ofString "__firstlineno__") 298 (.int (14) 297), kE P (.ofString "__static_attributes__") 299 (.ref 95), kE P (.ofString "__doc__") 300 .none] 2, #[]⟩) ::
  (nat_lit 97, ⟨(.type "type"), none, .cls ⟨(.ofString "NotMade"), [(.ref 24)], [(.ref 97), (.ref 24), (.type "ValueError"), (.type "Exception"), (.type "BaseException"), (.type "object")], 96, (.ofString "NotMade"), true, [], [], false, none, false⟩, #[(some (.ref 88)), none, (some (.str (.ofString "NotMade") 287)), (some (.str (.ofString "NotMade") 295)), (some (.builtin "ValueError.__new__")), (some (.bool true))]⟩) ::
  (nat_lit 108, ⟨(.type "dict"), none, .dict #[kE P (.ofString "__module__") 310 (.str (.ofString "kinnames.errors") 187), kE P (.ofString "__firstlineno__") 314 (.int (16) 313), kE P (.ofString "__static_attributes__") 315 (.ref 107), kE P (.ofString "__doc__") 316 .none] 2, #[]⟩) ::
  (nat_lit 109, ⟨(.type "type"), none, .cls ⟨(.ofString "TooShort"), [(.ref 24)], [(.ref 109), (.ref 24), (.type "ValueError"), (.type "Exception"), (.type "BaseException"), (.type "object")], 108, (.ofString "TooShort"), true, [], [], false, none, false⟩, #[(some (.ref 100)), none, (some (.str (.ofString "TooShort") 303)), (some (.str (.ofString "TooShort") 311)), (some (.builtin "ValueError.__new__")), (some (.bool true))]⟩) ::
  (nat_lit 120, ⟨(.type "dict"), none, .dict #[kE P (.ofString "__module__") 326 (.str (.ofString "kinnames.errors") 187), kE P (.ofString "__firstlineno__") 330 (.int (18) 329), kE P (.ofString "__static_attributes__") 331 (.ref 119), kE P (.ofString "__doc__") 332 .none] 2, #[]⟩) ::
  (nat_lit 121, ⟨(.type "type"), none, .cls ⟨(.ofString "Nothing"), [(.ref 24)], [(.ref 121), (.ref 24), (.type "ValueError"), (.type "Exception"), (.type "BaseException"), (.type "object")], 120, (.ofString "Nothing"), true, [], [], false, none, false⟩, #[(some (.ref 112)), none, (some (.str (.ofString "Nothing") 319)), (some (.str (.ofString "Nothing") 327)), (some (.builtin "ValueError.__new__")), (some (.bool true))]⟩) ::
  (nat_lit 127, ⟨(.type "code"), none, .fields #[(.str (.ofString "is_name") 345), (.str (.ofString "is_name") 346), (.str (.ofString "/claim/cut.py") 347), (.int (25) 0), (.int (1) 0), (.int (0) 0), (.int (0) 0), (.int (3) 0), (.ref 124), (.bool true), (.int (181) 0), (.ref 125), .none, .none, .none, (.ref 126), (.int (348) 0), (.int (25) 0), (.str (.ofString "/claim/cut.py") 349)], #[]⟩) ::
  (nat_lit 128, kF (top 15) (.ofString "is_name") (.ofString "is_name") .none .none .none (.str (.ofString "kinnames.books") 335) none (.ref 127) .none (.type "function") none #[]) ::
  (nat_lit 132, ⟨(.type "code"), none, .fields #[(.str (.ofString "is_book") 351), (.str (.ofString "is_book") 352), (.str (.ofString "/claim/cut.py") 353), (.int (29) 0), (.int (1) 0), (.int (0) 0), (.int (0) 0), (.int (3) 0), (.ref 129), (.bool true), (.int (181) 0), (.ref 130), .none, .none, .none, (.ref 131), (.int (354) 0), (.int (29) 0), (.str (.ofString "/claim/cut.py") 355)], #[]⟩) ::
  (nat_lit 133, kF (top 16) (.ofString "is_book") (.ofString "is_book") .none .none .none (.str (.ofString "kinnames.books") 335) none (.ref 132) .none (.type "function") none #[]) ::
  (nat_lit 139, ⟨(.type "code"), none, .fields #[(.str (.ofString "is_whole") 357), (.str (.ofString "is_whole") 358), (.str (.ofString "/claim/cut.py") 359), (.int (33) 0), (.int (3) 0), (.int (0) 0), (.int (0) 0), (.int (3) 0), (.ref 134), (.bool true), (.int (181) 0), (.ref 135), .none, (.ref 136), (.ref 137), (.ref 138), (.int (363) 0), (.int (33) 0), (.str (.ofString "/claim/cut.py") 364)], #[]⟩) ::
  (nat_lit 140, kF (top 17) (.ofString "is_whole") (.ofString "is_whole") .none .none .none (.str (.ofString "kinnames.books") 335) none (.ref 139) .none (.type "function") none #[]) ::
  (nat_lit 146, ⟨(.type "code"), none, .fields #[(.str (.ofString "is_order") 366), (.str (.ofString "is_order") 367), (.str (.ofString "/claim/cut.py") 368), (.int (37) 0), (.int (1) 0), (.int (0) 0), (.int (0) 0), (.int (3) 0), (.ref 141), (.bool true), (.int (181) 0), (.ref 142), .none, (.ref 143), (.ref 144), (.ref 145), (.int (370) 0), (.int (37) 0), (.str (.ofString "/claim/cut.py") 371)], #[]⟩) ::
  (nat_lit 147, kF (top 18) (.ofString "is_order") (.ofString "is_order") .none .none .none (.str (.ofString "kinnames.books") 335) none (.ref 146) .none (.type "function") none #[]) ::
  (nat_lit 153, ⟨(.type "code"), none, .fields #[(.str (.ofString "need_book") 373), (.str (.ofString "need_book") 374), (.str (.ofString "/claim/cut.py") 375), (.int (39) 0), (.int (1) 0), (.int (0) 0), (.int (0) 0), (.int (3) 0), (.ref 148), (.bool true), (.int (181) 0), (.ref 149), .none, (.ref 150), (.ref 151), (.ref 152), (.int (377) 0), (.int (39) 0), (.str (.ofString "/claim/cut.py") 378)], #[]⟩) ::
  (nat_lit 154, kF (top 19) (.ofString "need_book") (.ofString "need_book") .none .none .none (.str (.ofString "kinnames.books") 335) none (.ref 153) .none (.type "function") none #[]) ::
  (nat_lit 160, ⟨(.type "code"), none, .fields #[(.str (.ofString "need_order") 380), (.str (.ofString "need_order") 381), (.str (.ofString "/claim/cut.py") 382), (.int (42) 0), (.int (1) 0), (.int (0) 0), (.int (0) 0), (.int (3) 0), (.ref 155), (.bool true), (.int (181) 0), (.ref 156), .none, (.ref 157), (.ref 158), (.ref 159), (.int (384) 0), (.int (42) 0), (.str (.ofString "/claim/cut.py") 385)], #[]⟩) ::
  (nat_lit 161, kF (top 20) (.ofString "need_order") (.ofString "need_order") .none .none .none (.str (.ofString "kinnames.books") 335) none (.ref 160) .none (.type "function") none #[]) ::
  (nat_lit 167, ⟨(.type "code"), none, .fields #[(.str (.ofString "need_name") 387), (.str (.ofString "need_name") 388), (.str (.ofString "/claim/cut.py") 389), (.int (45) 0), (.int (1) 0), (.int (0) 0), (.int (0) 0), (.int (3) 0), (.ref 162), (.bool true), (.int (181) 0), (.ref 163), .none, (.ref 164), (.ref 165), (.ref 166), (.int (391) 0), (.int (45) 0), (.str (.ofString "/claim/cut.py") 392)], #[]⟩) ::
  (nat_lit 168, kF (top 21) (.ofString "need_name") (.ofString "need_name") .none .none .none (.str (.ofString "kinnames.books") 335) none (.ref 167) .none (.type "function") none #[]) ::
  (nat_lit 174, ⟨(.type "code"), none, .fields #[(.str (.ofString "end_of") 394), (.str (.ofString "end_of") 395), (.str (.ofString "/claim/cut.py") 396), (.int (48) 0), (.int (2) 0), (.int (0) 0), (.int (0) 0), (.int (3) 0), (.ref 169), (.bool true), (.int (181) 0), (.ref 170), .none, (.ref 171), (.ref 172), (.ref 173), (.int (399) 0), (.int (48) 0), (.str (.ofString "/claim/cut.py") 400)], #[]⟩) ::
  (nat_lit 175, kF (top 22) (.ofString "end_of") (.ofString "end_of") .none .none .none (.str (.ofString "kinnames.books") 335) none (.ref 174) .none (.type "function") none #[]) ::
  (nat_lit 179, ⟨(.type "code"), none, .fields #[(.str (.ofString "ends_and_letters") 402), (.str (.ofString "ends_and_letters") 403), (.str (.ofString "/claim/cut.py") 404), (.int (50) 0), (.int (2) 0), (.int (0) 0), (.int (0) 0), (.int (3) 0), (.ref 176), (.bool true), (.int (181) 0), (.ref 177), .none, .none, .none, (.ref 178), (.int (405) 0), (.int (50) 0), (.str (.ofString "/claim/cut.py") 406)], #[]⟩) ::
  (nat_lit 180, kF (top 23) (.ofString "ends_and_letters") (.ofString "ends_and_letters") .none .none .none (.str (.ofString "kinnames.books") 335) none (.ref 179) .none (.type "function") none #[]) ::
  (nat_lit 186, ⟨(.type "code"), none, .fields #[(.str (.ofString "counted_rows") 408), (.str (.ofString "counted_rows") 409), (.str (.ofString "/claim/cut.py") 410), (.int (52) 0), (.int (2) 0), (.int (0) 0), (.int (0) 0), (.int (3) 0), (.ref 181), (.bool true), (.int (181) 0), (.ref 182), .none, (.ref 183), (.ref 184), (.ref 185), (.int (418) 0), (.int (52) 0), (.str (.ofString "/claim/cut.py") 419)], #[]⟩) ::
  (nat_lit 187, kF (top 24) (.ofString "counted_rows") (.ofString "counted_rows") .none .none .none (.str (.ofString "kinnames.books") 335) none (.ref 186) .none (.type "function") none #[]) ::
  (nat_lit 188, ⟨(.type "tuple"), none, .seq #[(.int (0) 423), (.int (1) 424)] 0, #[]⟩) ::
  (nat_lit 189, ⟨(.type "tuple"), none, .seq #[(.int (1) 426), (.int (1) 427)] 0, #[]⟩) ::
  (nat_lit 195, ⟨(.type "code"), none, .fields #[(.str (.ofString "greatest_divisor") 429), (.str (.ofString "greatest_divisor") 430), (.str (.ofString "/claim/cut.py") 431), (.int (62) 0), (.int (2) 0), (.int (0) 0), (.int (0) 0), (.int (3) 0), (.ref 190), (.bool true), (.int (181) 0), (.ref 191), .none, (.ref 192), (.ref 193), (.ref 194), (.int (435) 0), (.int (62) 0), (.str (.ofString "/claim/cut.py") 436)], #[]⟩) ::
  (nat_lit 196, kF (top 28) (.ofString "greatest_divisor") (.ofString "greatest_divisor") .none .none .none (.str (.ofString "kinnames.shares") 421) none (.ref 195) .none (.type "function") none #[]) ::
  (nat_lit 202, ⟨(.type "code"), none, .fields #[(.str (.ofString "lowest") 438), (.str (.ofString "lowest") 439), (.str (.ofString "/claim/cut.py") 440), (.int (68) 0), (.int (2) 0), (.int (0) 0), (.int (0) 0), (.int (3) 0), (.ref 197), (.bool true), (.int (181) 0), (.ref 198), .none, (.ref 199), (.ref 200), (.ref 201), (.int (444) 0), (.int (68) 0), (.str (.ofString "/claim/cut.py") 445)], #[]⟩) ::
  (nat_lit 203, kF (top 29) (.ofString "lowest") (.ofString "lowest") .none .none .none (.str (.ofString "kinnames.shares") 421) none (.ref 202) .none (.type "function") none #[]) ::
  (nat_lit 209, ⟨(.type "code"), none, .fields #[(.str (.ofString "added") 447), (.str (.ofString "added") 448), (.str (.ofString "/claim/cut.py") 449), (.int (71) 0), (.int (2) 0), (.int (0) 0), (.int (0) 0), (.int (3) 0), (.ref 204), (.bool true), (.int (181) 0), (.ref 205), .none, (.ref 206), (.ref 207), (.ref 208), (.int (452) 0), (.int (71) 0), (.str (.ofString "/claim/cut.py") 453)], #[]⟩) ::
  (nat_lit 210, kF (top 30) (.ofString "added") (.ofString "added") .none .none .none (.str (.ofString "kinnames.shares") 421) none (.ref 209) .none (.type "function") none #[]) ::
  (nat_lit 216, ⟨(.type "code"), none, .fields #[(.str (.ofString "times") 455), (.str (.ofString "times") 456), (.str (.ofString "/claim/cut.py") 457), (.int (73) 0), (.int (2) 0), (.int (0) 0), (.int (0) 0), (.int (3) 0), (.ref 211), (.bool true), (.int (181) 0), (.ref 212), .none, (.ref 213), (.ref 214), (.ref 215), (.int (460) 0), (.int (73) 0), (.str (.ofString "/claim/cut.py") 461)], #[]⟩) ::
  (nat_lit 217, kF (top 31) (.ofString "times") (.ofString "times") .none .none .none (.str (.ofString "kinnames.shares") 421) none (.ref 216) .none (.type "function") none #[]) ::
  (nat_lit 223, ⟨(.type "code"), none, .fields #[(.str (.ofString "less") 463), (.str (.ofString "less") 464), (.str (.ofString "/claim/cut.py") 465), (.int (75) 0), (.int (2) 0), (.int (0) 0), (.int (0) 0), (.int (3) 0), (.ref 218), (.bool true), (.int (181) 0), (.ref 219), .none, (.ref 220), (.ref 221), (.ref 222), (.int (468) 0), (.int (75) 0), (.str (.ofString "/claim/cut.py") 469)], #[]⟩) ::
  (nat_lit 224, kF (top 32) (.ofString "less") (.ofString "less") .none .none .none (.str (.ofString "kinnames.shares") 421) none (.ref 223) .none (.type "function") none #[]) ::
  (nat_lit 230, ⟨(.type "code"), none, .fields #[(.str (.ofString "is_less") 471), (.str (.ofString "is_less") 472), (.str (.ofString "/claim/cut.py") 473), (.int (77) 0), (.int (2) 0), (.int (0) 0), (.int (0) 0), (.int (3) 0), (.ref 225), (.bool true), (.int (181) 0), (.ref 226), .none, (.ref 227), (.ref 228), (.ref 229), (.int (476) 0), (.int (77) 0), (.str (.ofString "/claim/cut.py") 477)], #[]⟩) ::
  (nat_lit 231, kF (top 33) (.ofString "is_less") (.ofString "is_less") .none .none .none (.str (.ofString "kinnames.shares") 421) none (.ref 230) .none (.type "function") none #[]) ::
  (nat_lit 237, ⟨(.type "code"), none, .fields #[(.str (.ofString "part_in") 479), (.str (.ofString "part_in") 480), (.str (.ofString "/claim/cut.py") 481), (.int (79) 0), (.int (2) 0), (.int (0) 0), (.int (0) 0), (.int (3) 0), (.ref 232), (.bool true), (.int (181) 0), (.ref 233), .none, (.ref 234), (.ref 235), (.ref 236), (.int (484) 0), (.int (79) 0), (.str (.ofString "/claim/cut.py") 485)], #[]⟩) ::
  (nat_lit 238, kF (top 34) (.ofString "part_in") (.ofString "part_in") .none .none .none (.str (.ofString "kinnames.shares") 421) none (.ref 237) .none (.type "function") none #[]) ::
  (nat_lit 242, ⟨(.type "code"), none, .fields #[(.str (.ofString "steps_by_rows") 487), (.str (.ofString "steps_by_rows") 488), (.str (.ofString "/claim/cut.py") 489), (.int (83) 0), (.int (3) 0), (.int (0) 0), (.int (0) 0), (.int (3) 0), (.ref 239), (.bool true), (.int (181) 0), (.ref 240), .none, .none, .none, (.ref 241), (.int (490) 0), (.int (83) 0), (.str (.ofString "/claim/cut.py") 491)], #[]⟩) ::
  (nat_lit 243, kF (top 35) (.ofString "steps_by_rows") (.ofString "steps_by_rows") .none .none .none (.str (.ofString "kinnames.shares") 421) none (.ref 242) .none (.type "function") none #[]) ::
  (nat_lit 249, ⟨(.type "code"), none, .fields #[(.str (.ofString "share_by_rows") 493), (.str (.ofString "share_by_rows") 494), (.str (.ofString "/claim/cut.py") 495), (.int (85) 0), (.int (3) 0), (.int (0) 0), (.int (0) 0), (.int (3) 0), (.ref 244), (.bool true), (.int (181) 0), (.ref 245), .none, (.ref 246), (.ref 247), (.ref 248), (.int (501) 0), (.int (85) 0), (.str (.ofString "/claim/cut.py") 502)], #[]⟩) ::
  (nat_lit 250, kF (top 36) (.ofString "share_by_rows") (.ofString "share_by_rows") .none .none .none (.str (.ofString "kinnames.shares") 421) none (.ref 249) .none (.type "function") none #[]) ::
  (nat_lit 256, ⟨(.type "code"), none, .fields #[(.str (.ofString "steps") 504), (.str (.ofString "steps") 505), (.str (.ofString "/claim/cut.py") 506), (.int (90) 0), (.int (3) 0), (.int (0) 0), (.int (0) 0), (.int (3) 0), (.ref 251), (.bool true), (.int (181) 0), (.ref 252), .none, (.ref 253), (.ref 254), (.ref 255), (.int (510) 0), (.int (90) 0), (.str (.ofString "/claim/cut.py") 511)], #[]⟩) ::
  (nat_lit 257, kF (top 37) (.ofString "steps") (.ofString "steps") .none .none .none (.str (.ofString "kinnames.shares") 421) none (.ref 256) .none (.type "function") none #[]) ::
  (nat_lit 263, ⟨(.type "code"), none, .fields #[(.str (.ofString "share") 513), (.str (.ofString "share") 514), (.str (.ofString "/claim/cut.py") 515), (.int (95) 0), (.int (3) 0), (.int (0) 0), (.int (0) 0), (.int (3) 0), (.ref 258), (.bool true), (.int (181) 0), (.ref 259), .none, (.ref 260), (.ref 261), (.ref 262), (.int (519) 0), (.int (95) 0), (.str (.ofString "/claim/cut.py") 520)], #[]⟩) ::
  (nat_lit 264, kF (top 38) (.ofString "share") (.ofString "share") .none .none .none (.str (.ofString "kinnames.shares") 421) none (.ref 263) .none (.type "function") none #[]) ::
  (nat_lit 270, ⟨(.type "code"), none, .fields #[(.str (.ofString "makes") 522), (.str (.ofString "makes") 523), (.str (.ofString "/claim/cut.py") 524), (.int (100) 0), (.int (3) 0), (.int (0) 0), (.int (0) 0), (.int (3) 0), (.ref 265), (.bool true), (.int (181) 0), (.ref 266), .none, (.ref 267), (.ref 268), (.ref 269), (.int (528) 0), (.int (100) 0), (.str (.ofString "/claim/cut.py") 529)], #[]⟩) ::
  (nat_lit 271, kF (top 39) (.ofString "makes") (.ofString "makes") .none .none .none (.str (.ofString "kinnames.shares") 421) none (.ref 270) .none (.type "function") none #[]) ::
  (nat_lit 277, ⟨(.type "code"), none, .fields #[(.str (.ofString "likelier") 531), (.str (.ofString "likelier") 532), (.str (.ofString "/claim/cut.py") 533), (.int (102) 0), (.int (4) 0), (.int (0) 0), (.int (0) 0), (.int (3) 0), (.ref 272), (.bool true), (.int (181) 0), (.ref 273), .none, (.ref 274), (.ref 275), (.ref 276), (.int (541) 0), (.int (102) 0), (.str (.ofString "/claim/cut.py") 542)], #[]⟩) ::
  (nat_lit 278, kF (top 40) (.ofString "likelier") (.ofString "likelier") .none .none .none (.str (.ofString "kinnames.shares") 421) none (.ref 277) .none (.type "function") none #[]) ::
  (nat_lit 284, ⟨(.type "code"), none, .fields #[(.str (.ofString "_law_cell") 546), (.str (.ofString "_law_cell") 547), (.str (.ofString "/claim/cut.py") 548), (.int (116) 0), (.int (2) 0), (.int (0) 0), (.int (0) 0), (.int (3) 0), (.ref 279), (.bool true), (.int (181) 0), (.ref 280), .none, (.ref 281), (.ref 282), (.ref 283), (.int (551) 0), (.int (116) 0), (.str (.ofString "/claim/cut.py") 552)], #[]⟩) ::
  (nat_lit 285, kF (top 42) (.ofString "_law_cell") (.ofString "_law_cell") .none .none .none (.str (.ofString "law_kinnames_k10_shares") 544) none (.ref 284) .none (.type "function") none #[]) ::
  (nat_lit 291, ⟨(.type "code"), none, .fields #[(.str (.ofString "_law_drawn") 554), (.str (.ofString "_law_drawn") 555), (.str (.ofString "/claim/cut.py") 556), (.int (120) 0), (.int (3) 0), (.int (0) 0), (.int (0) 0), (.int (3) 0), (.ref 286), (.bool true), (.int (181) 0), (.ref 287), .none, (.ref 288), (.ref 289), (.ref 290), (.int (561) 0), (.int (120) 0), (.str (.ofString "/claim/cut.py") 562)], #[]⟩) ::
  (nat_lit 292, kF (top 43) (.ofString "_law_drawn") (.ofString "_law_drawn") .none .none .none (.str (.ofString "law_kinnames_k10_shares") 544) none (.ref 291) .none (.type "function") none #[]) ::
  (nat_lit 296, ⟨(.type "code"), none, .fields #[(.str (.ofString "_law_name") 564), (.str (.ofString "_law_name") 565), (.str (.ofString "/claim/cut.py") 566), (.int (124) 0), (.int (3) 0), (.int (0) 0), (.int (0) 0), (.int (3) 0), (.ref 293), (.bool true), (.int (181) 0), (.ref 294), .none, .none, .none, (.ref 295), (.int (567) 0), (.int (124) 0), (.str (.ofString "/claim/cut.py") 568)], #[]⟩) ::
  (nat_lit 297, kF (top 44) (.ofString "_law_name") (.ofString "_law_name") .none .none .none (.str (.ofString "law_kinnames_k10_shares") 544) none (.ref 296) .none (.type "function") none #[]) ::
  (nat_lit 303, ⟨(.type "code"), none, .fields #[(.str (.ofString "_law_book") 570), (.str (.ofString "_law_book") 571), (.str (.ofString "/claim/cut.py") 572), (.int (128) 0), (.int (4) 0), (.int (0) 0), (.int (0) 0), (.int (3) 0), (.ref 298), (.bool true), (.int (181) 0), (.ref 299), .none, (.ref 300), (.ref 301), (.ref 302), (.int (579) 0), (.int (128) 0), (.str (.ofString "/claim/cut.py") 580)], #[]⟩) ::
  (nat_lit 304, kF (top 45) (.ofString "_law_book") (.ofString "_law_book") .none .none .none (.str (.ofString "law_kinnames_k10_shares") 544) none (.ref 303) .none (.type "function") none #[]) ::
  (nat_lit 310, ⟨(.type "code"), none, .fields #[(.str (.ofString "_law_counts") 582), (.str (.ofString "_law_counts") 583), (.str (.ofString "/claim/cut.py") 584), (.int (133) 0), (.int (2) 0), (.int (0) 0), (.int (0) 0), (.int (3) 0), (.ref 305), (.bool true), (.int (181) 0), (.ref 306), .none, (.ref 307), (.ref 308), (.ref 309), (.int (592) 0), (.int (133) 0), (.str (.ofString "/claim/cut.py") 593)], #[]⟩) ::
  (nat_lit 311, kF (top 46) (.ofString "_law_counts") (.ofString "_law_counts") .none .none .none (.str (.ofString "law_kinnames_k10_shares") 544) none (.ref 310) .none (.type "function") none #[]) ::
  (nat_lit 317, ⟨(.type "code"), none, .fields #[(.str (.ofString "_law_row") 595), (.str (.ofString "_law_row") 596), (.str (.ofString "/claim/cut.py") 597), (.int (143) 0), (.int (3) 0), (.int (0) 0), (.int (0) 0), (.int (3) 0), (.ref 312), (.bool true), (.int (181) 0), (.ref 313), .none, (.ref 314), (.ref 315), (.ref 316), (.int (602) 0), (.int (143) 0), (.str (.ofString "/claim/cut.py") 603)], #[]⟩) ::
  (nat_lit 318, kF (top 47) (.ofString "_law_row") (.ofString "_law_row") .none .none .none (.str (.ofString "law_kinnames_k10_shares") 544) none (.ref 317) .none (.type "function") none #[]) ::
  (nat_lit 324, ⟨(.type "code"), none, .fields #[(.str (.ofString "_law_lowest") 605), (.str (.ofString "_law_lowest") 606), (.str (.ofString "/claim/cut.py") 607), (.int (146) 0), (.int (2) 0), (.int (0) 0), (.int (0) 0), (.int (3) 0), (.ref 319), (.bool true), (.int (181) 0), (.ref 320), .none, (.ref 321), (.ref 322), (.ref 323), (.int (612) 0), (.int (146) 0), (.str (.ofString "/claim/cut.py") 613)], #[]⟩) ::
  (nat_lit 325, kF (top 48) (.ofString "_law_lowest") (.ofString "_law_lowest") .none .none .none (.str (.ofString "law_kinnames_k10_shares") 544) none (.ref 324) .none (.type "function") none #[]) ::
  (nat_lit 329, ⟨(.type "code"), none, .fields #[(.str (.ofString "_law_share") 615), (.str (.ofString "_law_share") 616), (.str (.ofString "/claim/cut.py") 617), (.int (152) 0), (.int (3) 0), (.int (0) 0), (.int (0) 0), (.int (3) 0), (.ref 326), (.bool true), (.int (181) 0), (.ref 327), .none, .none, .none, (.ref 328), (.int (618) 0), (.int (152) 0), (.str (.ofString "/claim/cut.py") 619)], #[]⟩) ::
  (nat_lit 330, kF (top 49) (.ofString "_law_share") (.ofString "_law_share") .none .none .none (.str (.ofString "law_kinnames_k10_shares") 544) none (.ref 329) .none (.type "function") none #[]) ::
  (nat_lit 336, ⟨(.type "code"), none, .fields #[(.str (.ofString "_law_sum") 621), (.str (.ofString "_law_sum") 622), (.str (.ofString "/claim/cut.py") 623), (.int (160) 0), (.int (1) 0), (.int (0) 0), (.int (0) 0), (.int (3) 0), (.ref 331), (.bool true), (.int (181) 0), (.ref 332), .none, (.ref 333), (.ref 334), (.ref 335), (.int (628) 0), (.int (160) 0), (.str (.ofString "/claim/cut.py") 629)], #[]⟩) ::
  (nat_lit 337, kF (top 50) (.ofString "_law_sum") (.ofString "_law_sum") .none .none .none (.str (.ofString "law_kinnames_k10_shares") 544) none (.ref 336) .none (.type "function") none #[]) ::
  (nat_lit 348, ⟨(.type "code"), none, .fields #[(.str (.ofString "_law_refused") 637), (.str (.ofString "_law_refused") 638), (.str (.ofString "/claim/cut.py") 639), (.int (178) 0), (.int (1) 0), (.int (0) 0), (.int (0) 0), (.int (3) 0), (.ref 343), (.bool true), (.int (181) 0), (.ref 344), .none, (.ref 345), (.ref 346), (.ref 347), (.int (642) 0), (.int (178) 0), (.str (.ofString "/claim/cut.py") 643)], #[]⟩) ::
  (nat_lit 349, kF (top 52) (.ofString "_law_refused") (.ofString "_law_refused") .none .none .none (.str (.ofString "law_kinnames_k10_shares") 544) none (.ref 348) .none (.type "function") none #[]) ::
  (nat_lit 355, ⟨(.type "code"), none, .fields #[(.str (.ofString "_law_told") 645), (.str (.ofString "_law_told") 646), (.str (.ofString "/claim/cut.py") 647), (.int (185) 0), (.int (4) 0), (.int (0) 0), (.int (0) 0), (.int (3) 0), (.ref 350), (.bool true), (.int (181) 0), (.ref 351), .none, (.ref 352), (.ref 353), (.ref 354), (.int (653) 0), (.int (185) 0), (.str (.ofString "/claim/cut.py") 654)], #[]⟩) ::
  (nat_lit 356, kF (top 53) (.ofString "_law_told") (.ofString "_law_told") .none .none .none (.str (.ofString "law_kinnames_k10_shares") 544) none (.ref 355) .none (.type "function") none #[]) ::
  (nat_lit 362, ⟨(.type "code"), none, .fields #[(.str (.ofString "_law_fractions_fit") 656), (.str (.ofString "_law_fractions_fit") 657), (.str (.ofString "/claim/cut.py") 658), (.int (192) 0), (.int (2) 0), (.int (0) 0), (.int (0) 0), (.int (3) 0), (.ref 357), (.bool true), (.int (181) 0), (.ref 358), .none, (.ref 359), (.ref 360), (.ref 361), (.int (661) 0), (.int (192) 0), (.str (.ofString "/claim/cut.py") 662)], #[]⟩) ::
  (nat_lit 363, kF (top 54) (.ofString "_law_fractions_fit") (.ofString "_law_fractions_fit") .none .none .none (.str (.ofString "law_kinnames_k10_shares") 544) none (.ref 362) .none (.type "function") none #[]) ::
  (nat_lit 369, ⟨(.type "code"), none, .fields #[(.str (.ofString "_law_best") 664), (.str (.ofString "_law_best") 665), (.str (.ofString "/claim/cut.py") 666), (.int (196) 0), (.int (4) 0), (.int (0) 0), (.int (0) 0), (.int (3) 0), (.ref 364), (.bool true), (.int (181) 0), (.ref 365), .none, (.ref 366), (.ref 367), (.ref 368), (.int (673) 0), (.int (196) 0), (.str (.ofString "/claim/cut.py") 674)], #[]⟩) ::
  (nat_lit 370, kF (top 55) (.ofString "_law_best") (.ofString "_law_best") .none .none .none (.str (.ofString "law_kinnames_k10_shares") 544) none (.ref 369) .none (.type "function") none #[]) ::
  (nat_lit 374, ⟨(.type "code"), none, .fields #[(.str (.ofString "_law_steps") 676), (.str (.ofString "_law_steps") 677), (.str (.ofString "/claim/cut.py") 678), (.int (202) 0), (.int (3) 0), (.int (0) 0), (.int (0) 0), (.int (3) 0), (.ref 371), (.bool true), (.int (181) 0), (.ref 372), .none, .none, .none, (.ref 373), (.int (679) 0), (.int (202) 0), (.str (.ofString "/claim/cut.py") 680)], #[]⟩) ::
  (nat_lit 375, kF (top 56) (.ofString "_law_steps") (.ofString "_law_steps") .none .none .none (.str (.ofString "law_kinnames_k10_shares") 544) none (.ref 374) .none (.type "function") none #[]) ::
  (nat_lit 379, ⟨(.type "code"), none, .fields #[(.str (.ofString "law") 682), (.str (.ofString "law") 683), (.str (.ofString "/claim/cut.py") 684), (.int (211) 0), (.int (1) 0), (.int (0) 0), (.int (0) 0), (.int (3) 0), (.ref 376), (.bool true), (.int (181) 0), (.ref 377), .none, .none, .none, (.ref 378), (.int (685) 0), (.int (211) 0), (.str (.ofString "/claim/cut.py") 686)], #[]⟩) ::
  (nat_lit 380, kF (top 57) (.ofString "law") (.ofString "law") .none .none .none (.str (.ofString "law_kinnames_k10_shares") 544) none (.ref 379) .none (.type "function") none #[]) :: []
def kas : List Addr := [2, 3, 23, 24, 25, 36, 37, 48, 49, 60, 61, 72, 73, 84, 85, 96, 97, 108, 109, 120, 121, 127, 128, 132, 133, 139, 140, 146, 147, 153, 154, 160, 161, 167, 168, 174, 175, 179, 180, 186, 187, 188, 189, 195, 196, 202, 203, 209, 210, 216, 217, 223, 224, 230, 231, 237, 238, 242, 243, 249, 250, 256, 257, 263, 264, 270, 271, 277, 278, 284, 285, 291, 292, 296, 297, 303, 304, 310, 311, 317, 318, 324, 325, 329, 330, 336, 337, 348, 349, 355, 356, 362, 363, 369, 370, 374, 375, 379, 380]
def kq : Program := view PySem.Challenge.pw_kinnames_k10_shares [1, 2, 3, 4, 5, 6, 7, 8, 9, 11, 12, 13, 14, 15, 16, 17, 18, 19, 20, 21, 22, 23, 24, 26, 27, 28, 29, 30, 31, 32, 33, 34, 35, 36, 37, 38, 39, 40, 42, 43, 44, 45, 46, 47, 48, 49, 50, 51, 52, 53, 54, 55, 56, 57]
def klo : List Str := []
theorem kas_e : ∀ P, kas = (kfr P).map (·.1) := fun _ => by kernel_rfl
noncomputable def hl0 (w : World) := (openEndsT treeTable PySem.Challenge.pw_kinnames_k10_shares w 6444).map (fun s => (seen ((recsOf kq).map (·.name)) (ownsOf kq) [] { s with gens := #[] }, s.heap.bltView, (s.heap.keysOk (looseW kq klo) ((recsOf kq).map (·.name)) ((litsOf kq).map (·.1)) ((clssOf kq (looseW kq klo)).map (·.name)) && s.heap.accountedOkI (importedModules PySem.Challenge.pw_kinnames_k10_shares.main.body) && s.heap.isNs mainGlobals && s.heap.isNs builtinsNs && tablesOk kq s.heap && (xlAt kq [] s && recOk [] s) && (if true = true then s.gens.size == 0 else !leftWithCleanup s.gens))))
noncomputable def hr0 (w : World) := some (expectedOf kq, bltViewBooted, true)
theorem hl0_e : hl0 = hl0 := rfl
theorem hr0_e : hr0 = hr0 := rfl
noncomputable def hl1 (w : World) := (openEndsT treeTable PySem.Challenge.pw_kinnames_k10_shares w 6444).map (fun s => (tabsOk kq s, pinSeenD kq (drecsOf kq) s, plainSeenE kq (looseW kq klo) s, plainSeenD kq klo s, wideSeen kq s, clsSeenW kq klo s))
noncomputable def hr1 (w : World) := some (true, pinGoodD (drecsOf kq), plainGoodE kq (looseW kq klo), plainGoodD kq klo, wideGood kq, clsGoodW kq klo)
theorem hl1_e : hl1 = hl1 := rfl
theorem hr1_e : hr1 = hr1 := rfl
noncomputable def hl2 (w : World) := (openEndsT treeTable PySem.Challenge.pw_kinnames_k10_shares w 6444).map (fun s => (kas.map s.heap.get?))
noncomputable def hr2 (w : World) := some ((kfr w.params).map fun p => some p.2)
theorem hl2_e : hl2 = hl2 := rfl
theorem hr2_e : hr2 = hr2 := rfl
end Kn
name_quick hl0Q for Kn.hl0 by Kn.hl0_e
name_quick hr0Q for Kn.hr0 by Kn.hr0_e
theorem Kn.hq0 (w : World) : PySem.W.Fast.hl0Q w = PySem.W.Fast.hr0Q w := by kernel_rfl
theorem Kn.hx0 (w : World) : Kn.hl0 w = Kn.hr0 w := ((congrFun PySem.W.Fast.hl0Q_eq w).trans (Kn.hq0 w)).trans (congrFun PySem.W.Fast.hr0Q_eq w).symm
name_quick hl1Q for Kn.hl1 by Kn.hl1_e
name_quick hr1Q for Kn.hr1 by Kn.hr1_e
theorem Kn.hq1 (w : World) : PySem.W.Fast.hl1Q w = PySem.W.Fast.hr1Q w := by kernel_rfl
theorem Kn.hx1 (w : World) : Kn.hl1 w = Kn.hr1 w := ((congrFun PySem.W.Fast.hl1Q_eq w).trans (Kn.hq1 w)).trans (congrFun PySem.W.Fast.hr1Q_eq w).symm
name_quick hl2Q for Kn.hl2 by Kn.hl2_e
name_quick hr2Q for Kn.hr2 by Kn.hr2_e
theorem Kn.hq2 (w : World) : PySem.W.Fast.hl2Q w = PySem.W.Fast.hr2Q w := by kernel_rfl
theorem Kn.hx2 (w : World) : Kn.hl2 w = Kn.hr2 w := ((congrFun PySem.W.Fast.hl2Q_eq w).trans (Kn.hq2 w)).trans (congrFun PySem.W.Fast.hr2Q_eq w).symm
theorem Kn.hl : LeftO PySem.Challenge.pw_kinnames_k10_shares Kn.kq Kn.klo (fun s => xlAt Kn.kq [] s && recOk [] s) (Hook.obs (kHook Kn.kfr Kn.kas Kn.kas_e)) (Hook.val (kHook Kn.kfr Kn.kas Kn.kas_e)) 6444 := fun w => by
  refine Kn.openMap_of ?_
  obtain ⟨s, e, x0⟩ := Option.map_eq_some_iff.mp (Kn.hx0 w)
  have y1 := Kn.hx1 w
  unfold Kn.hl1 at y1
  rw [e] at y1
  have x1 := Option.some.inj y1
  have y2 := Kn.hx2 w
  unfold Kn.hl2 at y2
  rw [e] at y2
  have x2 := Option.some.inj y2
  obtain ⟨a1, z0_0⟩ := Prod.mk.inj x0
  obtain ⟨a2, z0_1⟩ := Prod.mk.inj z0_0
  have a3 := z0_1
  obtain ⟨a4, z1_0⟩ := Prod.mk.inj x1
  obtain ⟨a5, z1_1⟩ := Prod.mk.inj z1_0
  obtain ⟨a6, z1_2⟩ := Prod.mk.inj z1_1
  obtain ⟨a7, z1_3⟩ := Prod.mk.inj z1_2
  obtain ⟨a8, z1_4⟩ := Prod.mk.inj z1_3
  have a9 := z1_4
  have aK := x2
  rw [e]
  exact congrArg some (looks_pair (looks_pair a1 (looks_pair a2 (looks_pair a3 (looks_pair a4 (looks_pair a5 (looks_pair a6 (looks_pair a7 (looks_pair a8 a9)))))))) aK)
end
section
set_option Elab.async false
set_option linter.all false
set_option maxRecDepth 100000
namespace L2
open PySem PySem.Spec PyProof.Rows
abbrev Key := Sum Int Str
def keyIs : Key → Value → Bool
  | .inl k, v => Value.isInt k v
  | .inr x, v => Value.isStrOf x v
def keyH (w : World) : Key → Int
  | .inl k => hashInt k
  | .inr x => hashStr w x
theorem keyIs_shape : ∀ {k : Key} {v : Value}, keyIs k v = true → (∃ i t, k = Sum.inl i ∧ v = Value.int i t) ∨ (∃ x t, k = Sum.inr x ∧ v = Value.str x t)
  | .inl i, v, h => by
    obtain ⟨t, e⟩ := Value.isInt_shape (k := i) (v := v) h
    exact .inl ⟨i, t, rfl, e⟩
  | .inr x, v, h => by
    obtain ⟨t, e⟩ := Value.isStrOf_shape (x := x) (v := v) h
    exact .inr ⟨x, t, rfl, e⟩
theorem keyIs_int (i : Int) (t : Tok) : keyIs (.inl i) (.int i t) = true := by simp [keyIs, Value.isInt]
theorem keyIs_str (x : Str) (t : Tok) : keyIs (.inr x) (.str x t) = true := by simp [keyIs, Value.isStrOf]
theorem key_ll (a b : Int) : decide ((Sum.inl a : Key) = Sum.inl b) = (a == b) := by
  by_cases e : a = b
  · subst e; simp
  · have h : ¬ (Sum.inl a : Key) = Sum.inl b := fun q => e (Sum.inl.inj q)
    rw [decide_eq_false h]
    exact (beq_eq_false_iff_ne.mpr e).symm
theorem key_rr (a b : Str) : decide ((Sum.inr a : Key) = Sum.inr b) = decide (a = b) := by
  by_cases e : a = b
  · subst e; simp
  · have h : ¬ (Sum.inr a : Key) = Sum.inr b := fun q => e (Sum.inr.inj q)
    rw [decide_eq_false h, decide_eq_false e]
theorem key_lr (a : Int) (b : Str) : decide ((Sum.inl a : Key) = Sum.inr b) = false := decide_eq_false (fun q => nomatch q)
theorem key_rl (a : Str) (b : Int) : decide ((Sum.inr a : Key) = Sum.inl b) = false := decide_eq_false (fun q => nomatch q)
def mixKind (prog : Program) (w : World) : PySem.KeyKind prog w Key where
  is := keyIs
  hash := keyH w
  inj := fun v a b ha hb => by
    rcases keyIs_shape ha with ⟨i, t, rfl, rfl⟩ | ⟨x, t, rfl, rfl⟩
    · rcases keyIs_shape hb with ⟨j, u, rfl, e⟩ | ⟨y, u, rfl, e⟩
      · injection e with e1 _; rw [e1]
      · exact nomatch e
    · rcases keyIs_shape hb with ⟨j, u, rfl, e⟩ | ⟨y, u, rfl, e⟩
      · exact nomatch e
      · injection e with e1 _; rw [e1]
  byValue := fun k v h => by
    rcases keyIs_shape h with ⟨i, t, rfl, rfl⟩ | ⟨x, t, rfl, rfl⟩ <;> rfl
  pyHash := fun hv h => by
    rcases keyIs_shape hv with ⟨i, t, rfl, rfl⟩ | ⟨x, t, rfl, rfl⟩
    · exact wpAny_pyHash_int h
    · exact wpAny_pyHash_str h
  eqBool := fun hu hv h => by
    rcases keyIs_shape hu with ⟨i, t, rfl, rfl⟩ | ⟨x, t, rfl, rfl⟩
    · rcases keyIs_shape hv with ⟨j, u, rfl, rfl⟩ | ⟨y, u, rfl, rfl⟩
      · rw [key_ll] at h; exact wpAny_eqBool_int h
      · rw [key_lr] at h; exact SeqAt.EqAt.int_str i t y u _ _ _ _ h
    · rcases keyIs_shape hv with ⟨j, u, rfl, rfl⟩ | ⟨y, u, rfl, rfl⟩
      · rw [key_rl] at h; exact SeqAt.EqAt.str_int x t j u _ _ _ _ h
      · rw [key_rr] at h; exact wpAny_eqBool_str h
  «strs» := fun k x t v h => by
    rcases keyIs_shape h with ⟨i, u, rfl, e⟩ | ⟨y, u, rfl, e⟩
    · exact nomatch e
    · injection e with e1 _
      subst e1
      cases v <;> rfl
abbrev TKey := Sum Str Bool
def tkIs : TKey → Value → Bool
  | .inl x, v => Value.isStrOf x v
  | .inr b, v => v == Value.bool b
theorem tkIs_shape : ∀ {k : TKey} {v : Value}, tkIs k v = true → (∃ x t, k = Sum.inl x ∧ v = Value.str x t) ∨ (∃ b, k = Sum.inr b ∧ v = Value.bool b)
  | .inl x, v, h => by
    obtain ⟨t, e⟩ := Value.isStrOf_shape (x := x) (v := v) h
    exact .inl ⟨x, t, rfl, e⟩
  | .inr b, v, h => .inr ⟨b, rfl, eq_of_beq h⟩
def tkH (w : World) : TKey → Int
  | .inl x => hashStr w x
  | .inr b => reduceHash (if b then 1 else 0)
theorem tk_hash {prog : Program} {w : World} {A : Around} {E : Value → Shared → Prop} {s : Shared} {b : Bool} {Q : Int → Shared → Prop} (h : Q (reduceHash (if b then 1 else 0)) { s with toks := s.toks + 1 }) :
    wpAny (model prog w) A (pyHash (.bool b)) Q E s := by
  refine PySem.W.pyHash_slot (T := "bool") rfl F.slot_bool_hash F.entry_int_hash (F.args_int_hash_1 _) (by decide) (.inl (by cases b <;> rfl)) ?_
  unfold Builtin.«int.__hash__»
  cases b
  · wp_walk
    exact ⟨_, _, rfl, h⟩
  · wp_walk
    exact ⟨_, _, rfl, h⟩
def tkKind (prog : Program) (w : World) : PySem.KeyKind prog w TKey where
  is := tkIs
  hash := tkH w
  inj := fun v a b ha hb => by
    rcases tkIs_shape ha with ⟨x, t, rfl, rfl⟩ | ⟨c, rfl, rfl⟩
    · rcases tkIs_shape hb with ⟨y, u, rfl, e⟩ | ⟨d, rfl, e⟩
      · injection e with e1 _; rw [e1]
      · exact nomatch e
    · rcases tkIs_shape hb with ⟨y, u, rfl, e⟩ | ⟨d, rfl, e⟩
      · exact nomatch e
      · injection e with e1; rw [e1]
  byValue := fun k v h => by
    rcases tkIs_shape h with ⟨x, t, rfl, rfl⟩ | ⟨c, rfl, rfl⟩ <;> rfl
  pyHash := fun hv h => by
    rcases tkIs_shape hv with ⟨x, t, rfl, rfl⟩ | ⟨c, rfl, rfl⟩
    · exact wpAny_pyHash_str h
    · exact tk_hash h
  eqBool := fun hu hv h => by
    rcases tkIs_shape hu with ⟨x, t, rfl, rfl⟩ | ⟨c, rfl, rfl⟩
    · rcases tkIs_shape hv with ⟨y, u, rfl, rfl⟩ | ⟨d, rfl, rfl⟩
      · have e : decide ((Sum.inl x : TKey) = Sum.inl y) = decide (x = y) := by
          by_cases q : x = y
          · subst q; simp
          · rw [decide_eq_false q, decide_eq_false fun z => q (Sum.inl.inj z)]
        rw [e] at h; exact wpAny_eqBool_str h
      · rw [decide_eq_false (fun q => nomatch q)] at h; exact SeqAt.EqAt.str_bool x t d _ _ _ _ h
    · rcases tkIs_shape hv with ⟨y, u, rfl, rfl⟩ | ⟨d, rfl, rfl⟩
      · rw [decide_eq_false (fun q => nomatch q)] at h; exact SeqAt.EqAt.bool_str c y u _ _ _ _ h
      · refine SeqAt.EqAt.bool_bool c d _ _ _ _ ?_
        have e : decide ((Sum.inr c : TKey) = Sum.inr d) = (c == d) := by cases c <;> cases d <;> rfl
        rw [← e]; exact h
  «strs» := fun k x t v h => by
    rcases tkIs_shape h with ⟨y, u, rfl, e⟩ | ⟨d, rfl, e⟩
    · injection e with e1 _
      subst e1
      cases v <;> rfl
    · exact nomatch e
theorem mixKind_is (prog : Program) (w : World) (k : Key) (v : Value) : (mixKind prog w).is k v = keyIs k v := rfl
theorem mixKind_int (prog : Program) (w : World) (i : Int) (t : Tok) : (mixKind prog w).is (.inl i) (.int i t) = true := keyIs_int i t
theorem mixKind_str (prog : Program) (w : World) (x : Str) (t : Tok) : (mixKind prog w).is (.inr x) (.str x t) = true := keyIs_str x t
end L2
namespace L2
open PySem PySem.Spec PyProof.Rows
inductive V where
  | non | bl (b : Bool) | int (i : Int) | str (x : Str) | byt (b : Array UInt8) | flt (b : UInt64) | ref (a : Addr) | ty (n : String)
  deriving DecidableEq
def RelV : V → Value → Prop
  | .non, u => u = Value.none
  | .bl b, u => u = Value.bool b
  | .int i, u => ∃ t, u = Value.int i t
  | .str x, u => ∃ t, u = Value.str x t
  | .byt b, u => ∃ t, u = Value.bytes b t
  | .flt b, u => ∃ t, u = Value.float b t
  | .ref a, u => u = Value.ref a
  | .ty n, u => u = Value.type n
abbrev Vals : List V → List Value → Prop := Paired RelV
theorem Vals.length {xs : List V} {us : List Value} (r : Vals xs us) : xs.length = us.length := Paired.length r
theorem Vals.get : ∀ {xs : List V} {us : List Value} {i : Nat} {x : V}, Vals xs us → xs[i]? = some x → ∃ u, us[i]? = some u ∧ RelV x u
  | _, _, _, _, .nil, e => by simp at e
  | _, _, 0, _, .cons r _, e => by simp at e; subst e; exact ⟨_, rfl, r⟩
  | _, _, i + 1, x, .cons _ t, e => by
    obtain ⟨u, h1, h2⟩ := Vals.get (i := i) (x := x) t (by simpa using e)
    exact ⟨u, by simpa using h1, h2⟩
theorem Vals.set {x : V} {u : Value} (r : RelV x u) : ∀ {xs : List V} {us : List Value} (i : Nat), Vals xs us → Vals (xs.set i x) (us.set i u)
  | _, _, _, .nil => .nil
  | _, _, 0, .cons _ t => .cons r t
  | _, _, i + 1, .cons q t => .cons q (Vals.set r i t)
theorem Vals.append : ∀ {xs ys : List V} {us ws : List Value}, Vals xs us → Vals ys ws → Vals (xs ++ ys) (us ++ ws)
  | _, _, _, _, .nil, s => s
  | _, _, _, _, .cons r t, s => .cons r (Vals.append t s)
theorem Vals.take : ∀ {xs : List V} {us : List Value} (n : Nat), Vals xs us → Vals (xs.take n) (us.take n)
  | _, _, 0, _ => .nil
  | _, _, _ + 1, .nil => .nil
  | _, _, n + 1, .cons r t => .cons r (Vals.take n t)
theorem Vals.drop : ∀ {xs : List V} {us : List Value} (n : Nat), Vals xs us → Vals (xs.drop n) (us.drop n)
  | _, _, 0, r => r
  | _, _, _ + 1, .nil => .nil
  | _, _, n + 1, .cons _ t => Vals.drop n t
def RelO : Option V → Option Value → Prop
  | some v, some u => RelV v u
  | none, none => True
  | _, _ => False
def KV {κ : Type} : List (κ × V) → List (κ × Value) → Prop := Paired fun (p : κ × V) (q : κ × Value) => p.1 = q.1 ∧ RelV p.2 q.2
def kV : Key → V
  | .inl i => .int i
  | .inr x => .str x
def tkV : TKey → V
  | .inl x => .str x
  | .inr b => .bl b
inductive HO where
  | lst (xs : List V)
  | tup (xs : List V)
  | dK (kvs : List (Key × V)) | dT (kvs : List (List TKey × V))
  | set (S : Int → Bool) (n : Nat)
  | ins (C dx : Addr) (fs : List (Str × V))
  | own (x : Addr)
  | xd (fs : List (Str × V))
  | met (f x : Addr)
  | rng (lo hi : Int)
  | frz (o : Obj) (u : HO)
  | tbl (ps : Array Value)
  | ext (φ : Heap → Prop)
abbrev Hp := Addr → Option HO
def upd (H : Hp) (a : Addr) (o : HO) : Hp := fun b => if b = a then some o else H b
theorem upd_same {H : Hp} {a : Addr} {o : HO} : upd H a o a = some o := by unfold upd; rw [if_pos rfl]
theorem upd_ne {H : Hp} {a b : Addr} {o : HO} (h : b ≠ a) : upd H a o b = H b := by unfold upd; rw [if_neg h]
theorem ne_of {H : Hp} {a b : Addr} {o u : HO} (h : H a = some o) (h' : H b = some u) (d : o ≠ u) : a ≠ b := by
  intro e; subst e; rw [h] at h'; exact d (Option.some.inj h')
theorem ne_of_none {H : Hp} {a b : Addr} {o : HO} (h : H a = some o) (h' : H b = none) : a ≠ b := by
  intro e; subst e; rw [h] at h'; cases h'
section
variable (P : Program) (w : World)
def ObjOk (H : Hp) (h : Heap) (a : Addr) : HO → Prop
  | .lst xs => xs.length ≤ sizeLine ∧ ∃ (its : List Value) (n : Nat), Vals xs its ∧ h.get? a = some { cls := .type "list", data := .seq its.toArray n }
  | .tup xs => xs.length ≤ sizeLine ∧ ∃ its : List Value, Vals xs its ∧ IsTup h a its.toArray
  | .dK kvs => kvs.length ≤ sizeLine ∧ (a == sysModules) = false ∧ ∃ vs, KV kvs vs ∧ h.DictOf (mixKind P w) a vs
  | .dT kvs => kvs.length ≤ sizeLine ∧ (a == sysModules) = false ∧ ∃ xs : List (List TKey × Addr × Value),
      Paired (fun (p : List TKey × V) (q : List TKey × Addr × Value) => p.1 = q.1 ∧ H q.2.1 = some (.tup (p.1.map tkV)) ∧ RelV p.2 q.2.2) kvs xs ∧
      ∃ o es ep, h.get? a = some o ∧ o.ExactDict ∧ o.data = .dict es ep ∧ es.toList = xs.map (entryOfKey (tupleKind (tkKind P w))) ∧ (xs.map (·.1)).Nodup
  | .set S n => h.SetOf (intKind P w) a S n
  | .ins C dx fs => H dx = some (.own a) ∧ fs.length ≤ 1000 ∧ dx ≠ a ∧ h.get? a = some (PySem.W.instObj C dx) ∧
      ∃ mA, h.Ns1 dx mA ∧ (∀ f, RelO (fs.lookup f) (mA f)) ∧ PySem.Within mA (fs.map (·.1))
  | .own _ => ∃ o, h.get? a = some o
  | .xd fs => ∃ mA, h.Ns1 a mA ∧ ∀ f, RelO (fs.lookup f) (mA f)
  | .rng lo hi => ∃ t u v, h.get? a = some { cls := .type "range", data := .fields #[.int lo t, .int hi u, .int 1 v] }
  | .frz o u => h.get? a = some o ∧ ObjOk H h a u
  | .tbl ps => h.get? a = some { cls := .none, data := .fields ps }
  | .met f x => h.get? a = some (PySem.W.methodObj (.ref f) (.ref x))
  | .ext φ => φ h ∧ (∃ o, h.get? a = some o) ∧ ∀ h1 h2 : Heap, φ h1 → (∀ o, h1.get? a = some o → h2.get? a = some o) → φ h2
def HOk (H : Hp) (h : Heap) : Prop := ∀ a o, H a = some o → ObjOk P w H h a o
end
section
variable {P : Program} {w : World} {H H' : Hp} {h h' : Heap} {a : Addr} {o : HO}
theorem ObjOk.lt (x : ObjOk P w H h a o) : a < h.objs.size := by
  cases o with
  | lst xs => obtain ⟨_, _, _, _, e⟩ := x; exact Heap.lt_size e
  | tup xs => obtain ⟨_, _, _, p⟩ := x; exact p.lt
  | dK kvs => obtain ⟨_, _, _, _, o, _, _, e, _⟩ := x; exact Heap.lt_size e
  | dT kvs => obtain ⟨_, _, _, _, o, _, _, e, _⟩ := x; exact Heap.lt_size e
  | set S n => obtain ⟨o, _, _, _, e, _⟩ := x; exact Heap.lt_size e
  | ins C dx fs => obtain ⟨_, _, _, e, _⟩ := x; exact Heap.lt_size e
  | own y => obtain ⟨_, e⟩ := x; exact Heap.lt_size e
  | xd fs => obtain ⟨_, ⟨_, _, _, e, _⟩, _⟩ := x; exact Heap.lt_size e
  | rng lo hi => obtain ⟨_, _, _, e⟩ := x; exact Heap.lt_size e
  | frz ob u => obtain ⟨e, _⟩ := x; exact Heap.lt_size e
  | tbl ps => exact Heap.lt_size (show h.get? a = some _ from x)
  | met f y => exact Heap.lt_size (show h.get? a = some _ from x)
  | ext φ => obtain ⟨_, ⟨_, e⟩, _⟩ := x; exact Heap.lt_size e
theorem Paired.mapP {α β : Type} {F G : α → β → Prop} : ∀ {l₁ : List α} {l₂ : List β}, Paired F l₁ l₂ → (∀ a b, F a b → G a b) → Paired G l₁ l₂
  | _, _, .nil, _ => .nil
  | _, _, .cons r t, f => .cons (f _ _ r) (Paired.mapP t f)
theorem ObjOk.stay (x : ObjOk P w H h a o) (k : ∀ b u, (b = a ∨ H b = some (.own a)) → h.get? b = some u → h'.get? b = some u)
    (ho : ∀ b, H b = some (.own a) → H' b = some (.own a)) (ht : ∀ b xs, H b = some (.tup xs) → H' b = some (.tup xs)) : ObjOk P w H' h' a o := by
  induction o with
  | lst xs => obtain ⟨z, its, n, r, e⟩ := x; exact ⟨z, its, n, r, k _ _ (.inl rfl) e⟩
  | tup xs => obtain ⟨z, its, r, ob, e, c⟩ := x; exact ⟨z, its, r, ob, k _ _ (.inl rfl) e, c⟩
  | dK kvs => obtain ⟨z, y, vs, r, ob, es, ep, e, c⟩ := x; exact ⟨z, y, vs, r, ob, es, ep, k _ _ (.inl rfl) e, c⟩
  | dT kvs =>
    obtain ⟨z, y, xs, r, ob, es, ep, e, c⟩ := x
    exact ⟨z, y, xs, Paired.mapP r fun p q z => ⟨z.1, ht _ _ z.2.1, z.2.2⟩, ob, es, ep, k _ _ (.inl rfl) e, c⟩
  | set S n => obtain ⟨ob, es, ep, t, e, c⟩ := x; exact ⟨ob, es, ep, t, k _ _ (.inl rfl) e, c⟩
  | ins C dx fs =>
    obtain ⟨d, z, ne, e, mA, ⟨od, es, ep, e2, c⟩, r⟩ := x
    exact ⟨ho _ d, z, ne, k _ _ (.inl rfl) e, mA, ⟨od, es, ep, k _ _ (.inr d) e2, c⟩, r⟩
  | own y => obtain ⟨ob, e⟩ := x; exact ⟨ob, k _ _ (.inl rfl) e⟩
  | xd fs => obtain ⟨mA, ⟨od, es, ep, e, c⟩, r⟩ := x; exact ⟨mA, ⟨od, es, ep, k _ _ (.inl rfl) e, c⟩, r⟩
  | rng lo hi => obtain ⟨t, u, v, e⟩ := x; exact ⟨t, u, v, k _ _ (.inl rfl) e⟩
  | frz ob u ih => obtain ⟨e, q⟩ := x; exact ⟨k _ _ (.inl rfl) e, ih q⟩
  | tbl ps =>
    have e : h.get? a = some { cls := .none, data := .fields ps } := x
    show h'.get? a = some { cls := .none, data := .fields ps }
    exact k a _ (.inl rfl) e
  | met f y =>
    have e : h.get? a = some (PySem.W.methodObj (.ref f) (.ref y)) := x
    show h'.get? a = some (PySem.W.methodObj (.ref f) (.ref y))
    exact k a _ (.inl rfl) e
  | ext φ => obtain ⟨p, ⟨o, e⟩, st⟩ := x; exact ⟨st _ _ p fun o q => k _ _ (.inl rfl) q, ⟨o, k _ _ (.inl rfl) e⟩, st⟩
theorem HOk.lt (x : HOk P w H h) (e : H a = some o) : a < h.objs.size := (x a o e).lt
theorem HOk.fresh (x : HOk P w H h) (e : h.objs.size ≤ a) : H a = none := by
  cases q : H a with
  | none => rfl
  | some u => exact absurd (Nat.lt_of_lt_of_le (x.lt q) e) (Nat.lt_irrefl _)
theorem HOk.kept (x : HOk P w H h) (k : ∀ b u, h.get? b = some u → h'.get? b = some u) : HOk P w H h' := fun a o e =>
  (x a o e).stay (fun b u _ q => k b u q) (fun _ q => q) fun _ _ q => q
theorem HOk.laid (x : HOk P w H h) (k : ∀ b u, h.get? b = some u → h'.get? b = some u) (hp : h.objs.size ≤ a) (new : ObjOk P w (upd H a o) h' a o) : HOk P w (upd H a o) h' := fun b u e => by
  have hn := x.fresh hp
  by_cases hb : b = a
  · subst hb; rw [upd_same] at e; cases e; exact new
  · rw [upd_ne hb] at e
    exact (x b u e).stay (fun c v _ q => k c v q) (fun c q => by rw [upd_ne (ne_of_none q hn)]; exact q) fun c xs q => by rw [upd_ne (ne_of_none q hn)]; exact q
end
def Rd (H : Hp) (a : Addr) (u : HO) : Prop := H a = some u ∨ ∃ o, H a = some (.frz o u)
theorem Rd.of {H : Hp} {a : Addr} {u : HO} (h : H a = some u) : Rd H a u := .inl h
theorem Rd.ok {P : Program} {w : World} {H : Hp} {h : Heap} {a : Addr} {u : HO} (r : Rd H a u) (x : HOk P w H h) : ObjOk P w H h a u := by
  rcases r with r | ⟨o, r⟩
  · exact x a u r
  · obtain ⟨_, q⟩ := x a _ r
    exact q
def Mut : Option HO → Prop
  | some (.lst _) => True
  | some (.dK _) => True
  | some (.dT _) => True
  | some (.set _ _) => True
  | some (.ins _ _ _) => True
  | some (.ext _) => True
  | _ => False
section
variable {P : Program} {w : World} {H : Hp} {h h' : Heap} {x e : Addr} {o' : HO}
theorem HOk.write (ok : HOk P w H h) (mu : Mut (H x)) (he : e = x ∨ H e = some (.own x)) (k : ∀ b u, b ≠ e → h.get? b = some u → h'.get? b = some u) (heo : ∃ u, h'.get? e = some u)
    (new : ObjOk P w (upd H x o') h' x o') : HOk P w (upd H x o') h' := fun b u q => by
  have nown : ∀ c y, H c = some (.own y) → c ≠ x := fun c y r z => by subst z; rw [r] at mu; exact mu
  have ntup : ∀ c xs, H c = some (.tup xs) → c ≠ x := fun c xs r z => by subst z; rw [r] at mu; exact mu
  by_cases hb : b = x
  · subst hb; rw [upd_same] at q; cases q; exact new
  · rw [upd_ne hb] at q
    by_cases hbe : b = e
    · have q' : H b = some (.own x) := by
        rcases he with z | z
        · exact absurd (hbe.trans z) hb
        · rw [hbe]; exact z
      rw [q] at q'; cases q'
      obtain ⟨v, hv⟩ := heo
      exact ⟨v, by rw [hbe]; exact hv⟩
    · refine (ok b u q).stay (fun c v hc r => k c v ?_ r) (fun c r => by rw [upd_ne (nown c b r)]; exact r) fun c xs r => by rw [upd_ne (ntup c xs r)]; exact r
      rcases hc with rfl | hc
      · exact hbe
      · rintro rfl
        rcases he with z | z
        · exact nown c b hc z
        · rw [hc] at z; cases z; exact hb rfl
end
structure Un (fs ex : List Addr) (H H' : Hp) (h h' : Heap) : Prop where
  keep : ∀ b o, h.get? b = some o → H b = none → b ∉ fs → b ∉ ex → h'.get? b = some o
  slot : ∀ b o, h.get? b = some o → H b = none → b ∈ fs → b ∉ ex → ∃ sl, h'.get? b = some { o with slots := sl }
  free : ∀ b o, h.get? b = some o → H b = none → b ∉ ex → H' b = none
  there : ∀ b o, h.get? b = some o → b ∉ ex → ∃ o', h'.get? b = some o'
  tups : ∀ b xs, H b = some (.tup xs) → H' b = some (.tup xs)
  frzs : ∀ b o u, H b = some (.frz o u) → H' b = some (.frz o u)
  tbls : ∀ b ps, H b = some (.tbl ps) → ∃ more, H' b = some (.tbl (ps ++ more))
section
variable {fs fs' ex ex' : List Addr} {H H1 H2 : Hp} {h h1 h2 h' : Heap} {a x e : Addr} {o : HO}
theorem Un.any (u : Un fs ex H H1 h h1) {b : Addr} {ob : Obj} (q : h.get? b = some ob) (n : H b = none) (hx : b ∉ ex) : ∃ sl, h1.get? b = some { ob with slots := sl } := by
  by_cases hb : b ∈ fs
  · exact u.slot b ob q n hb hx
  · exact ⟨ob.slots, u.keep b ob q n hb hx⟩
theorem Un.trans (a : Un fs ex H H1 h h1) (b : Un fs ex H1 H2 h1 h2) : Un fs ex H H2 h h2 where
  keep := fun c ob q n hc hx => b.keep c ob (a.keep c ob q n hc hx) (a.free c ob q n hx) hc hx
  slot := fun c ob q n hc hx => by
    obtain ⟨sl, e1⟩ := a.slot c ob q n hc hx
    obtain ⟨sl', e2⟩ := b.slot c _ e1 (a.free c ob q n hx) hc hx
    exact ⟨sl', e2⟩
  free := fun c ob q n hx => by
    obtain ⟨o', e1⟩ := a.there c ob q hx
    exact b.free c o' e1 (a.free c ob q n hx) hx
  there := fun c ob q hx => by
    obtain ⟨o', e1⟩ := a.there c ob q hx
    exact b.there c o' e1 hx
  tups := fun c xs q => b.tups c xs (a.tups c xs q)
  frzs := fun c ob xs q => b.frzs c ob xs (a.frzs c ob xs q)
  tbls := fun c ps q => by
    obtain ⟨m1, e1⟩ := a.tbls c ps q
    obtain ⟨m2, e2⟩ := b.tbls c _ e1
    exact ⟨m1 ++ m2, by rw [e2, Array.append_assoc]⟩
theorem Un.kept (k : ∀ b u, h.get? b = some u → h'.get? b = some u) : Un fs ex H H h h' :=
  ⟨fun b ob q _ _ _ => k b ob q, fun b ob q _ _ _ => ⟨ob.slots, k b ob q⟩, fun _ _ _ n _ => n, fun b ob q _ => ⟨ob, k b ob q⟩, fun _ _ q => q, fun _ _ _ q => q, fun _ ps q => ⟨#[], by rw [q]; simp⟩⟩
theorem Un.refl : Un fs ex H H h h := Un.kept fun _ _ q => q
theorem Un.laid (k : ∀ b u, h.get? b = some u → h'.get? b = some u) (hp : h.objs.size ≤ a) (hn : H a = none) : Un fs ex H (upd H a o) h h' where
  keep := fun b u q _ _ _ => k b u q
  slot := fun b u q _ _ _ => ⟨u.slots, k b u q⟩
  free := fun b u q n _ => by rw [upd_ne (Nat.ne_of_lt (Nat.lt_of_lt_of_le (Heap.lt_size q) hp))]; exact n
  there := fun b u q _ => ⟨u, k b u q⟩
  tups := fun b xs q => by rw [upd_ne (ne_of_none q hn)]; exact q
  frzs := fun b u xs q => by rw [upd_ne (ne_of_none q hn)]; exact q
  tbls := fun b ps q => ⟨#[], by rw [upd_ne (ne_of_none q hn), q]; simp⟩
theorem Un.write (mu : Mut (H x)) (he : e = x ∨ H e = some (.own x)) (k : ∀ b u, b ≠ e → h.get? b = some u → h'.get? b = some u) (heo : ∃ u, h'.get? e = some u) : Un fs ex H (upd H x o) h h' := by
  have hx : ∀ b, H b = none → b ≠ x := fun b n z => by subst z; rw [n] at mu; exact mu
  have hb : ∀ b, H b = none → b ≠ e := fun b n z => by
    subst z
    rcases he with r | r
    · exact hx b n r
    · rw [n] at r; cases r
  have hm : ∀ b u, H b = some u → ¬ Mut (some u) → b ≠ x := fun b u q nm z => by subst z; rw [q] at mu; exact nm mu
  refine ⟨fun b u q n _ _ => k b u (hb b n) q, fun b u q n _ _ => ⟨u.slots, k b u (hb b n) q⟩, fun b u q n _ => by rw [upd_ne (hx b n)]; exact n, fun b u q _ => ?_,
    fun b xs q => by rw [upd_ne (hm b _ q fun z => z)]; exact q, fun b u xs q => by rw [upd_ne (hm b _ q fun z => z)]; exact q, fun b ps q => ⟨#[], by rw [upd_ne (hm b _ q fun z => z), q]; simp⟩⟩
  by_cases hbe : b = e
  · subst hbe; exact heo
  · exact ⟨u, k b u hbe q⟩
theorem Un.mono (u : Un fs ex H H1 h h1) (hs : ∀ b ∈ fs, b ∈ fs') (hx : ∀ b ∈ ex, b ∈ ex') : Un fs' ex' H H1 h h1 :=
  ⟨fun b ob q n hb he => u.keep b ob q n (fun z => hb (hs b z)) fun z => he (hx b z), fun _ _ q n _ he => u.any q n fun z => he (hx _ z), fun b ob q n he => u.free b ob q n fun z => he (hx b z), fun b ob q he => u.there b ob q fun z => he (hx b z), u.tups, u.frzs, u.tbls⟩
end
def trk (h : Heap) (H : Hp) : List Addr := (List.range h.objs.size).filter fun a => (H a).isSome
def hidT (h : Heap) (H : Hp) : Heap := PySem.W.hideAll h (trk h H)
theorem hidT_size (h : Heap) (H : Hp) : (hidT h H).objs.size = h.objs.size := PySem.W.hideAll_size _ _
theorem hidT_get {h : Heap} {H : Hp} {b : Addr} {o : Obj} (e : h.get? b = some o) (n : H b = none) : (hidT h H).get? b = some o :=
  PySem.W.hideAll_get _ e fun hm => by
    have q : (H b).isSome = true := (List.mem_filter.mp hm).2
    rw [n] at q; simp at q
theorem of_hidT {h : Heap} {H : Hp} {b : Addr} {o : Obj} (e : (hidT h H).get? b = some o) : h.get? b = some o ∧ H b = none := by
  have e' : h.get? b = some o := PySem.W.of_hideAll (trk h H) e
  refine ⟨e', ?_⟩
  cases q : H b with
  | none => rfl
  | some x =>
    have hm : b ∈ trk h H := List.mem_filter.mpr ⟨List.mem_range.mpr (Heap.lt_size e'), by simp [q]⟩
    have z : (hidT h H).get? b = none := PySem.W.hideAll_none (trk h H) hm
    rw [z] at e; cases e
def allNews (g h : Heap) (L : Addr) : List (Addr × Obj) := (List.range h.objs.size).filterMap fun a => if a = L ∨ (g.get? a).isSome = true then none else (h.get? a).map fun o => (a, o)
def rest (g h : Heap) (L d : Addr) : List (Addr × Obj) := (allNews g h L).filter fun p => decide (p.1 ≠ d)
end L2
namespace L2
open PySem PySem.Spec PyProof.Rows
structure Mod (K : PySem.W.Frag) (mg : Str → Option Value) (base : Heap) : Prop where
  kin : K.In base
  glob : base.Ns mainGlobals mg
  blt : ∃ mb, base.Ns builtinsNs mb ∧ ∀ x : Str, x ≠ "__name__" → mb x = bootBuiltins x
  nolimit : base.NoLimit
structure Cx where
  prog : Program
  w : World
  K : PySem.W.Frag
  mg : Str → Option Value
  base : Heap
  A : Around
  N : List Str
  s₀ : Shared
  H₀ : Hp
  env : Env
  outer : List Env
  stack : List Env
  ex : List Addr
  fn : Str → Bool
  calm : Bool
  pn : List (Addr × Obj)
  xe : Value → Shared → Prop
def frs (l : List Env) : List Addr := l.filterMap (·.frame)
abbrev Cx.fs (X : Cx) : List Addr := frs X.outer
def Vis (sc : Scope) (x : Str) : Prop := sc.names.lookup x = some .local ∨ sc.names.lookup x = some .cell ∨ sc.names.lookup x = some .free
def Loc (sc : Scope) (x : Str) : Prop := sc.names.lookup x = some .local ∨ sc.names.lookup x = some .cell
def Look (env : Env) (h : Heap) (m : Str → Option Value) (x : Str) (u : Value) : Prop :=
  (env.kindOf x = some .local ∧ m x = some u) ∨ ((env.kindOf x = some .cell ∨ env.kindOf x = some .free) ∧ ∃ c, env.cells.lookup x = some c ∧ h.IsCell c (some u))
structure Cx.Ok (X : Cx) : Prop where
  mod : Mod X.K X.mg X.base
  kind : X.env.scope.kind = .function
  glob : X.env.globals = mainGlobals
  blt : X.env.builtins = builtinsNs
  above : X.s₀.heap.objs.size ≤ X.env.locals
  inj : ∀ x y c, X.env.cells.lookup x = some c → X.env.cells.lookup y = some c → x = y
  has : ∀ x, (X.env.kindOf x = some .cell ∨ X.env.kindOf x = some .free) → ∃ c, X.env.cells.lookup x = some c
  cab : ∀ x c, X.fn x = true → X.env.cells.lookup x = some c → X.s₀.heap.objs.size ≤ c
  hd : X.calm = true → X.A.handled = none
  frames : X.A.frames = some X.stack
  stk : X.stack = X.outer ∨ (X.stack = X.env :: X.outer ∧ X.env.frame = some X.env.locals)
  exf : ∀ b ∈ X.ex, b ≠ X.env.locals ∧ ∀ x c, X.env.cells.lookup x = some c → c ≠ b
  bs : ∀ b o, X.base.get? b = some o → X.s₀.heap.get? b = some o ∧ X.H₀ b = none
  bsz : X.base.objs.size ≤ X.s₀.heap.objs.size
  noex : ∀ b o, X.base.get? b = some o → b ∉ X.ex
  exfs : ∀ b ∈ X.ex, b ∉ X.fs
  funs : X.s₀.heap.FunFrames X.base X.outer
  frf : ∀ b ∈ X.fs, X.H₀ b = none
structure Inv (X : Cx) (pins : List (Addr × Obj)) (σ : List (Option V)) (H : Hp) (s : Shared) : Prop where
  ok : X.Ok
  os : s.os = X.s₀.os
  bare : AllBare s.gens
  base : Un X.fs X.ex X.H₀ H X.s₀.heap s.heap
  loc : ∃ m, s.heap.Ns X.env.locals m ∧ ∀ (i : Nat) (x : Str) (v : V), X.N[i]? = some x → σ[i]? = some (some v) → Vis X.env.scope x → ∃ u, RelV v u ∧ Look X.env s.heap m x u
  cell : ∀ x c, X.env.cells.lookup x = some c → ∃ v, s.heap.IsCell c v
  free : H X.env.locals = none
  freeC : ∀ x c, X.env.cells.lookup x = some c → H c = none
  pin : ∀ p ∈ X.pn ++ pins, s.heap.get? p.1 = some p.2 ∧ H p.1 = none ∧ p.1 ≠ X.env.locals ∧ p.1 ∉ X.fs ∧ ∀ v, p.2.data ≠ .cell v
  hok : HOk X.prog X.w H s.heap
  len : σ.length = X.N.length
section
variable {X : Cx} {pins : List (Addr × Obj)} {σ : List (Option V)} {H H' : Hp} {s : Shared} {h' : Heap}
theorem Cx.Ok.nofr (ok : X.Ok) {b : Addr} {o : Obj} (e : X.base.get? b = some o) : b ∉ X.fs := fun hb => by
  have := (ok.funs.mem hb).1
  rw [e] at this; cases this
theorem Inv.bs (I : Inv X pins σ H s) : ∀ b o, X.base.get? b = some o → s.heap.get? b = some o ∧ H b = none := fun b o e =>
  ⟨I.base.keep b o (I.ok.bs b o e).1 (I.ok.bs b o e).2 (I.ok.nofr e) (I.ok.noex b o e), I.base.free b o (I.ok.bs b o e).1 (I.ok.bs b o e).2 (I.ok.noex b o e)⟩
theorem Inv.bk (I : Inv X pins σ H s) : ∀ b o, X.base.get? b = some o → s.heap.get? b = some o := fun b o e => (I.bs b o e).1
theorem Inv.mod (I : Inv X pins σ H s) : Mod X.K X.mg X.base := I.ok.mod
theorem Inv.kIn (I : Inv X pins σ H s) : X.K.In s.heap := I.ok.mod.kin.keeps I.bk
theorem Inv.nolimit (I : Inv X pins σ H s) : s.heap.NoLimit := I.ok.mod.nolimit.keeps I.bk
theorem Inv.fr (I : Inv X pins σ H s) : ∃ m, Fr X.base X.env.locals s.heap m :=
  let ⟨m, hn, _⟩ := I.loc
  ⟨m, hn, I.bk, Nat.le_trans I.ok.bsz I.ok.above⟩
theorem Inv.lt (I : Inv X pins σ H s) : X.env.locals < s.heap.objs.size := let ⟨_, hn, _⟩ := I.loc; hn.lt
theorem Inv.sz (I : Inv X pins σ H s) : X.s₀.heap.objs.size ≤ s.heap.objs.size := Nat.le_trans I.ok.above (Nat.le_of_lt I.lt)
theorem Inv.nofs (I : Inv X pins σ H s) {a : Addr} (h : s.heap.objs.size ≤ a) : a ∉ X.fs := fun hb => by
  obtain ⟨_, o, ho, _⟩ := I.ok.funs.mem hb
  exact absurd (Nat.lt_of_lt_of_le (Heap.lt_size ho) (Nat.le_trans I.sz h)) (Nat.lt_irrefl _)
theorem Inv.cne (I : Inv X pins σ H s) : ∀ x c, X.env.cells.lookup x = some c → c ≠ X.env.locals := fun x c e z => by
  obtain ⟨v, o, ho, hd⟩ := I.cell x c e
  obtain ⟨m, ⟨o', es, ep, ho', hd', _⟩, _⟩ := I.loc
  rw [z, ho'] at ho; cases ho; rw [hd'] at hd; cases hd
theorem Inv.funs (I : Inv X pins σ H s) : s.heap.FunFrames X.base X.outer := by
  have all : ∀ (l : List Env), (∀ b ∈ frs l, b ∈ X.fs) → X.s₀.heap.FunFrames X.base l → s.heap.FunFrames X.base l := by
    intro l
    induction l with
    | nil => intro _ _; trivial
    | cons env r ih =>
      intro hs hl
      obtain ⟨hk, ⟨L, o, hf, hn, ho, hd⟩, hr⟩ := hl
      have hL : L ∈ X.fs := hs L (by unfold frs; rw [List.filterMap_cons, hf]; exact List.mem_cons_self)
      obtain ⟨sl, e⟩ := I.base.slot L o ho (I.ok.frf L hL) hL fun z => I.ok.exfs L z hL
      exact ⟨hk, ⟨L, _, hf, hn, e, hd⟩, ih (fun b hb => hs b (by unfold frs; rw [List.filterMap_cons, hf]; exact List.mem_cons_of_mem _ hb)) hr⟩
  exact all X.outer (fun _ hb => hb) I.ok.funs
theorem Inv.stack (I : Inv X pins σ H s) : s.heap.FunFrames X.base X.stack := by
  rcases I.ok.stk with e | ⟨e, hf⟩
  · rw [e]; exact I.funs
  · rw [e]
    obtain ⟨m, hn, _⟩ := I.loc
    refine .cons (by rw [I.ok.kind]; decide) hf hn ?_ I.funs
    exact Heap.get?_none_of_le (Nat.le_trans I.ok.bsz I.ok.above)
theorem Inv.stkSub (I : Inv X pins σ H s) : ∀ b ∈ frs X.stack, b ∈ X.env.locals :: X.fs := fun b hb => by
  rcases I.ok.stk with e | ⟨e, hf⟩
  · rw [e] at hb; exact List.mem_cons_of_mem _ hb
  · rw [e] at hb
    unfold frs at hb
    rw [List.filterMap_cons, hf] at hb
    exact hb
theorem Inv.stkFree (I : Inv X pins σ H s) : ∀ b ∈ frs X.stack, H b = none := fun b hb => by
  rcases List.mem_cons.mp (I.stkSub b hb) with e | hb
  · rw [e]; exact I.free
  · obtain ⟨_, o, ho, _⟩ := I.ok.funs.mem hb
    exact I.base.free b o ho (I.ok.frf b hb) fun z => I.ok.exfs b z hb
theorem Inv.step {g' : Array GenState} {t' : Nat} {d' : Drawn} {ch : List Addr} (I : Inv X pins σ H s)
    (hch : ∀ b ∈ ch, (b ∈ X.ex ∨ X.s₀.heap.objs.size ≤ b) ∧ b ≠ X.env.locals ∧ (∀ x c, X.env.cells.lookup x = some c → c ≠ b) ∧ ∀ p ∈ X.pn ++ pins, p.1 ≠ b)
    (keep : ∀ b o, b ≠ X.env.locals → b ∉ X.fs → b ∉ ch → s.heap.get? b = some o → H b = none → h'.get? b = some o)
    (slot : ∀ b o, b ≠ X.env.locals → b ∈ X.fs → b ∉ ch → s.heap.get? b = some o → H b = none → ∃ sl, h'.get? b = some { o with slots := sl }) (free : ∀ b o, b ∉ ch → s.heap.get? b = some o → H b = none → H' b = none)
    (there : ∀ b o, b ∉ ch → s.heap.get? b = some o → ∃ o', h'.get? b = some o')
    (tups : ∀ b xs, H b = some (.tup xs) → H' b = some (.tup xs)) (frzs : ∀ b o u, H b = some (.frz o u) → H' b = some (.frz o u)) (tbls : ∀ b ps, H b = some (.tbl ps) → ∃ more, H' b = some (.tbl (ps ++ more)))
    (ns : ∀ m, s.heap.Ns X.env.locals m → h'.Ns X.env.locals m) (hok : HOk X.prog X.w H' h') (hg : AllBare g') :
    Inv X pins σ H' { s with heap := h', gens := g', drawn := d', toks := t' } := by
  have neL : ∀ b o, X.s₀.heap.get? b = some o → b ≠ X.env.locals := fun b o e => Nat.ne_of_lt (Nat.lt_of_lt_of_le (Heap.lt_size e) I.ok.above)
  have neC : ∀ b o, X.s₀.heap.get? b = some o → b ∉ X.ex → b ∉ ch := fun b o e hx hb => by
    rcases (hch b hb).1 with z | z
    · exact hx z
    · exact absurd (Nat.lt_of_lt_of_le (Heap.lt_size e) z) (Nat.lt_irrefl _)
  have cellK : ∀ x c, X.env.cells.lookup x = some c → ∀ v, s.heap.IsCell c v → h'.IsCell c v := fun x c e v ⟨o, ho, hd⟩ => by
    have nch : c ∉ ch := fun z => (hch c z).2.2.1 x c e rfl
    by_cases hc : c ∈ X.fs
    · obtain ⟨sl, q⟩ := slot c o (I.cne x c e) hc nch ho (I.freeC x c e)
      exact ⟨_, q, hd⟩
    · exact ⟨o, keep c o (I.cne x c e) hc nch ho (I.freeC x c e), hd⟩
  refine ⟨I.ok, I.os, hg, ⟨fun b o e n hb hx => ?_, fun b o e n hb hx => ?_, fun b o e n hx => ?_, fun b o e hx => ?_, fun b xs e => tups b xs (I.base.tups b xs e), fun b o xs e => frzs b o xs (I.base.frzs b o xs e), fun b ps e => ?_⟩, ?_, fun x c e => ?_, ?_, fun x c e => ?_, fun p hp => ?_, hok, I.len⟩
  · exact keep b o (neL b o e) hb (neC b o e hx) (I.base.keep b o e n hb hx) (I.base.free b o e n hx)
  · obtain ⟨sl, e1⟩ := I.base.slot b o e n hb hx
    obtain ⟨sl', e2⟩ := slot b _ (neL b o e) hb (neC b o e hx) e1 (I.base.free b o e n hx)
    exact ⟨sl', e2⟩
  · obtain ⟨o', e1⟩ := I.base.there b o e hx
    exact free b o' (neC b o e hx) e1 (I.base.free b o e n hx)
  · obtain ⟨o', e1⟩ := I.base.there b o e hx
    exact there b o' (neC b o e hx) e1
  · obtain ⟨m1, e1⟩ := I.base.tbls b ps e
    obtain ⟨m2, e2⟩ := tbls b _ e1
    exact ⟨m1 ++ m2, by rw [e2, Array.append_assoc]⟩
  · obtain ⟨m, hn, hl⟩ := I.loc
    refine ⟨m, ns m hn, fun i x v e1 e2 e3 => ?_⟩
    obtain ⟨u, r, l⟩ := hl i x v e1 e2 e3
    refine ⟨u, r, ?_⟩
    rcases l with l | ⟨k, c, e, z⟩
    · exact .inl l
    · exact .inr ⟨k, c, e, cellK x c e _ z⟩
  · obtain ⟨v, z⟩ := I.cell x c e
    exact ⟨v, cellK x c e v z⟩
  · obtain ⟨m, ⟨o, _, _, ho, _⟩, _⟩ := I.loc
    exact free _ o (fun z => (hch _ z).2.1 rfl) ho I.free
  · obtain ⟨v, o, ho, hd⟩ := I.cell x c e
    exact free c o (fun z => (hch c z).2.2.1 x c e rfl) ho (I.freeC x c e)
  · obtain ⟨e, n, ne, nf, d⟩ := I.pin p hp
    have nch : p.1 ∉ ch := fun z => (hch p.1 z).2.2.2 p hp rfl
    exact ⟨keep p.1 p.2 ne nf nch e n, free p.1 p.2 nch e n, ne, nf, d⟩
theorem Inv.un {t' : Nat} (I : Inv X pins σ H s) (u : Un X.fs [] H H' s.heap h') (hok : HOk X.prog X.w H' h') : Inv X pins σ H' { s with heap := h', toks := t' } := by
  obtain ⟨m, ⟨o, es, ep, ho, r⟩, _⟩ := id I.loc
  obtain ⟨sl, hL⟩ := u.any ho I.free (by simp)
  exact I.step (g' := s.gens) (d' := s.drawn) (ch := []) (fun _ z => nomatch z) (fun b o _ hb _ e n => u.keep b o e n hb (by simp)) (fun b o _ hb _ e n => u.slot b o e n hb (by simp)) (fun b o _ e n => u.free b o e n (by simp)) (fun b o _ e => u.there b o e (by simp)) u.tups u.frzs u.tbls (fun m' hm => by
    obtain ⟨o', es', ep', ho', r'⟩ := hm
    rw [ho] at ho'; cases ho'
    exact ⟨_, es', ep', hL, r'⟩) hok I.bare
theorem Inv.call {g' : Array GenState} {t' : Nat} {d' : Drawn} {ch : List Addr} (I : Inv X pins σ H s) (u : Un (frs X.stack) ch H H' s.heap h') (hok : HOk X.prog X.w H' h') (hg : AllBare g')
    (hch : ∀ b ∈ ch, (b ∈ X.ex ∨ X.s₀.heap.objs.size ≤ b) ∧ b ≠ X.env.locals ∧ (∀ x c, X.env.cells.lookup x = some c → c ≠ b) ∧ ∀ p ∈ X.pn ++ pins, p.1 ≠ b) :
    Inv X pins σ H' { s with heap := h', gens := g', drawn := d', toks := t' } := by
  obtain ⟨m, ⟨o, es, ep, ho, r⟩, _⟩ := id I.loc
  obtain ⟨sl, hL⟩ := u.any ho I.free fun z => (hch _ z).2.1 rfl
  exact I.step (ch := ch) hch (fun b o hL hb hc e n => u.keep b o e n (fun z => (List.mem_cons.mp (I.stkSub b z)).elim hL hb) hc) (fun b o _ _ hc e n => u.any e n hc) (fun b o hc e n => u.free b o e n hc) (fun b o hc e => u.there b o e hc) u.tups u.frzs u.tbls (fun m' hm => by
    obtain ⟨o', es', ep', ho', r'⟩ := hm
    rw [ho] at ho'; cases ho'
    exact ⟨_, es', ep', hL, r'⟩) hok hg
theorem Inv.turned {t' : Nat} {it : Addr} (I : Inv X pins σ H s) (k : ∀ b o, b ≠ it → s.heap.get? b = some o → h'.get? b = some o) (hn : H it = none) (hL : it ≠ X.env.locals)
    (h1 : it ∈ X.ex ∨ X.s₀.heap.objs.size ≤ it) (h2 : ∀ x c, X.env.cells.lookup x = some c → c ≠ it) (h3 : ∀ p ∈ X.pn ++ pins, p.1 ≠ it) : Inv X pins σ H { s with heap := h', toks := t' } := by
  have nit : ∀ b u, H b = some u → b ≠ it := fun b u e z => by rw [z, hn] at e; cases e
  refine I.step (g' := s.gens) (d' := s.drawn) (ch := [it]) (fun b hb => ?_) (fun b o _ _ hc e _ => k b o (fun z => hc (by simp [z])) e) (fun b o _ _ hc e _ => ⟨o.slots, k b o (fun z => hc (by simp [z])) e⟩) (fun _ _ _ _ n => n)
    (fun b o hc e => ⟨o, k b o (fun z => hc (by simp [z])) e⟩) (fun _ _ e => e) (fun _ _ _ e => e) (fun b ps e => ⟨#[], by rw [e]; simp⟩) (fun m hm => ?_) (fun b u e => ?_) I.bare
  · have e : b = it := by simpa using hb
    subst e
    exact ⟨h1, hL, h2, h3⟩
  · obtain ⟨o, es, ep, ho, r⟩ := hm
    exact ⟨o, es, ep, k _ o (Ne.symm hL) ho, r⟩
  · refine (I.hok b u e).stay (fun c v hc q => k c v ?_ q) (fun _ q => q) fun _ _ q => q
    rcases hc with z | z
    · rw [z]; exact nit b u e
    · exact nit c _ z
theorem Inv.tok (I : Inv X pins σ H s) (t : Nat) : Inv X pins σ H { s with toks := t } := I.un (h' := s.heap) (t' := t) Un.refl I.hok
theorem Inv.kept {t' : Nat} (I : Inv X pins σ H s) (k : ∀ b u, s.heap.get? b = some u → h'.get? b = some u) : Inv X pins σ H { s with heap := h', toks := t' } := I.un (Un.kept k) (I.hok.kept k)
theorem Inv.laid {a : Addr} {o : HO} {t' : Nat} (I : Inv X pins σ H s) (k : ∀ b u, s.heap.get? b = some u → h'.get? b = some u) (hp : s.heap.objs.size ≤ a) (new : ObjOk X.prog X.w (upd H a o) h' a o) :
    Inv X pins σ (upd H a o) { s with heap := h', toks := t' } := I.un (Un.laid k hp (I.hok.fresh hp)) (I.hok.laid k hp new)
theorem Inv.write {x e : Addr} {o : HO} {t' : Nat} (I : Inv X pins σ H s) (mu : Mut (H x)) (he : e = x ∨ H e = some (.own x)) (k : ∀ b u, b ≠ e → s.heap.get? b = some u → h'.get? b = some u) (heo : ∃ u, h'.get? e = some u)
    (new : ObjOk X.prog X.w (upd H x o) h' x o) : Inv X pins σ (upd H x o) { s with heap := h', toks := t' } := I.un (Un.write mu he k heo) (I.hok.write mu he k heo new)
theorem Inv.weak {σ' : List (Option V)} (I : Inv X pins σ H s) (hl : σ'.length = σ.length) (w : ∀ (i : Nat) v, σ'[i]? = some (some v) → σ[i]? = some (some v)) : Inv X pins σ' H s :=
  ⟨I.ok, I.os, I.bare, I.base, let ⟨m, hn, hl'⟩ := I.loc; ⟨m, hn, fun i x v e1 e2 e3 => hl' i x v e1 (w i v e2) e3⟩, I.cell, I.free, I.freeC, I.pin, I.hok, hl.trans I.len⟩
theorem Inv.pins_of {pins' : List (Addr × Obj)} (I : Inv X pins σ H s) (h : ∀ p ∈ pins', s.heap.get? p.1 = some p.2 ∧ H p.1 = none ∧ p.1 ≠ X.env.locals ∧ p.1 ∉ X.fs ∧ ∀ v, p.2.data ≠ .cell v) : Inv X pins' σ H s :=
  ⟨I.ok, I.os, I.bare, I.base, I.loc, I.cell, I.free, I.freeC, fun p hp => (List.mem_append.mp hp).elim (fun z => I.pin p (List.mem_append_left _ z)) (h p), I.hok, I.len⟩
theorem nodup_ix {N : List Str} (hN : N.Nodup) {i j : Nat} {x : Str} (a : N[i]? = some x) (b : N[j]? = some x) : i = j := by
  obtain ⟨h1, e1⟩ := List.getElem?_eq_some_iff.mp a
  obtain ⟨h2, e2⟩ := List.getElem?_eq_some_iff.mp b
  exact (List.getElem_inj hN).mp (e1.trans e2.symm)
theorem store_ok2 {M : Model} {A : Around} {E : Value → Shared → Prop} {i : Nat} {x : Str} {v : V} {u : Value} {Q : Unit → Shared → Prop} (I : Inv X pins σ H s) (hN : X.N.Nodup) (hi : X.N[i]? = some x) (hx : Loc X.env.scope x) (r : RelV v u)
    (h : ∀ s', Inv X pins (σ.set i (some v)) H s' → (∃ a, Heap.SameBut a s.heap s'.heap ∧ (a = X.env.locals ∨ X.env.cells.lookup x = some a)) → Q () s') (hf : X.fn x = true ∨ X.env.scope.names.lookup x = some .local := by first | exact .inl rfl | exact .inr rfl | assumption) : wpAny M A (storeName X.env x u) Q E s := by
  obtain ⟨m, hn, hl⟩ := id I.loc
  have hcls : (X.env.scope.kind == .class || (X.env.scope.kind == .module && X.env.locals != X.env.globals)) = false := by rw [I.ok.kind]; rfl
  have hiσ : i < σ.length := by rw [I.len]; exact (List.getElem?_eq_some_iff.mp hi).1
  have cne := I.cne
  have tracked : ∀ {a : Addr} {h' : Heap}, (∃ o, s.heap.get? a = some o ∧ H a = none) → Heap.SameBut a s.heap h' → HOk X.prog X.w H h' := fun {a h'} ha hs b ob e => by
    obtain ⟨_, _, hfree⟩ := ha
    refine (I.hok b ob e).stay (fun c w' hc q => (hs.2 c ?_).trans q) (fun _ q => q) fun _ _ q => q
    rintro rfl
    rcases hc with rfl | hc
    · rw [hfree] at e; cases e
    · rw [hfree] at hc; cases hc
  rcases hx with hk | hk
  · refine wpAny_storeName_local hk hn (fun h' hn' hs => ?_) hcls
    obtain ⟨oL, _, _, hoL, _⟩ := id hn
    refine h _ ⟨I.ok, I.os, I.bare, ⟨fun b o e n hb hx => ?_, fun b o e n hb hx => ?_, I.base.free, fun b o e hx => ?_, I.base.tups, I.base.frzs, I.base.tbls⟩, ⟨_, hn', fun j y v' e1 e2 e3 => ?_⟩, fun y c e => ?_, I.free, I.freeC, fun p hp => ?_, tracked ⟨oL, hoL, I.free⟩ hs, by simpa using I.len⟩ ⟨_, hs, .inl rfl⟩
    · exact (hs.2 b (Nat.ne_of_lt (Nat.lt_of_lt_of_le (Heap.lt_size e) I.ok.above))).trans (I.base.keep b o e n hb hx)
    · obtain ⟨sl, e1⟩ := I.base.slot b o e n hb hx
      exact ⟨sl, (hs.2 b (Nat.ne_of_lt (Nat.lt_of_lt_of_le (Heap.lt_size e) I.ok.above))).trans e1⟩
    · obtain ⟨o', e1⟩ := I.base.there b o e hx
      exact ⟨o', (hs.2 b (Nat.ne_of_lt (Nat.lt_of_lt_of_le (Heap.lt_size e) I.ok.above))).trans e1⟩
    · by_cases hj : j = i
      · subst hj
        rw [hi] at e1; cases e1
        rw [List.getElem?_set_self hiσ] at e2
        cases e2
        exact ⟨u, r, .inl ⟨hk, by simp⟩⟩
      · rw [List.getElem?_set_ne (Ne.symm hj)] at e2
        obtain ⟨u', r', q⟩ := hl j y v' e1 e2 e3
        refine ⟨u', r', ?_⟩
        rcases q with ⟨k, e⟩ | ⟨k, c, e, z⟩
        · refine .inl ⟨k, ?_⟩
          have : y ≠ x := fun e => hj (nodup_ix hN e1 (e ▸ hi))
          simp [this, e]
        · exact .inr ⟨k, c, e, z.sameBut hs (cne y c e)⟩
    · obtain ⟨w', z⟩ := I.cell y c e
      exact ⟨w', z.sameBut hs (cne y c e)⟩
    · obtain ⟨e, n, ne, nf, d⟩ := I.pin p hp
      exact ⟨(hs.2 p.1 ne).trans e, n, ne, nf, d⟩
  · have hfn : X.fn x = true := by
      rcases hf with z | z
      · exact z
      · rw [z] at hk; cases hk
    obtain ⟨c, hc⟩ := I.ok.has x (.inl hk)
    obtain ⟨w', z⟩ := I.cell x c hc
    refine wpAny_storeName_cell I.ok.kind hk hc z (fun h' hc' hs => ?_)
    obtain ⟨oc, hoc, hocd⟩ := id z
    refine h { s with heap := h' } ⟨I.ok, I.os, I.bare, ⟨fun b o e n hb hx => ?_, fun b o e n hb hx => ?_, I.base.free, fun b o e hx => ?_, I.base.tups, I.base.frzs, I.base.tbls⟩, ⟨m, hn.sameBut hs (Ne.symm (cne x c hc)), fun j y v' e1 e2 e3 => ?_⟩, fun y c' e => ?_, I.free, I.freeC, fun p hp => ?_, tracked ⟨oc, hoc, I.freeC x c hc⟩ hs, by simpa using I.len⟩ ⟨c, hs, .inr hc⟩
    · exact (hs.2 b (Nat.ne_of_lt (Nat.lt_of_lt_of_le (Heap.lt_size e) (I.ok.cab x c hfn hc)))).trans (I.base.keep b o e n hb hx)
    · obtain ⟨sl, e1⟩ := I.base.slot b o e n hb hx
      exact ⟨sl, (hs.2 b (Nat.ne_of_lt (Nat.lt_of_lt_of_le (Heap.lt_size e) (I.ok.cab x c hfn hc)))).trans e1⟩
    · obtain ⟨o', e1⟩ := I.base.there b o e hx
      exact ⟨o', (hs.2 b (Nat.ne_of_lt (Nat.lt_of_lt_of_le (Heap.lt_size e) (I.ok.cab x c hfn hc)))).trans e1⟩
    · by_cases hj : j = i
      · subst hj
        rw [hi] at e1; cases e1
        rw [List.getElem?_set_self hiσ] at e2
        cases e2
        exact ⟨u, r, .inr ⟨.inl hk, c, hc, hc'⟩⟩
      · rw [List.getElem?_set_ne (Ne.symm hj)] at e2
        obtain ⟨u', r', q⟩ := hl j y v' e1 e2 e3
        refine ⟨u', r', ?_⟩
        rcases q with q | ⟨k, c', e, z'⟩
        · exact .inl q
        · refine .inr ⟨k, c', e, z'.sameBut hs ?_⟩
          rintro rfl
          exact hj (nodup_ix hN e1 (I.ok.inj _ _ _ e hc ▸ hi))
    · by_cases hcc : c' = c
      · subst hcc; exact ⟨_, hc'⟩
      · obtain ⟨w2, z2⟩ := I.cell y c' e
        exact ⟨w2, z2.sameBut hs hcc⟩
    · obtain ⟨e, n, ne, nf, d⟩ := I.pin p hp
      refine ⟨(hs.2 p.1 ?_).trans e, n, ne, nf, d⟩
      intro q
      rw [q, hoc] at e
      have q' : oc = p.2 := Option.some.inj e
      exact d w' (by rw [← q']; exact hocd)
theorem store_ok {M : Model} {A : Around} {E : Value → Shared → Prop} {i : Nat} {x : Str} {v : V} {u : Value} {Q : Unit → Shared → Prop} (I : Inv X pins σ H s) (hN : X.N.Nodup) (hi : X.N[i]? = some x) (hx : Loc X.env.scope x) (r : RelV v u)
    (h : ∀ s', Inv X pins (σ.set i (some v)) H s' → Q () s') (hf : X.fn x = true ∨ X.env.scope.names.lookup x = some .local := by first | exact .inl rfl | exact .inr rfl | assumption) : wpAny M A (storeName X.env x u) Q E s :=
  store_ok2 I hN hi hx r (fun s' I' _ => h s' I') hf
theorem Inv.call' {s' : Shared} {ch : List Addr} (I : Inv X pins σ H s) (ho : s'.os = s.os) (u : Un (frs X.stack) ch H H' s.heap s'.heap) (hok : HOk X.prog X.w H' s'.heap) (hg : AllBare s'.gens)
    (hch : ∀ b ∈ ch, (b ∈ X.ex ∨ X.s₀.heap.objs.size ≤ b) ∧ b ≠ X.env.locals ∧ (∀ x c, X.env.cells.lookup x = some c → c ≠ b) ∧ ∀ p ∈ X.pn ++ pins, p.1 ≠ b) : Inv X pins σ H' s' := by
  obtain ⟨h', g', d', t', o'⟩ := s'
  have e : o' = s.os := ho
  subst e
  exact I.call (g' := g') (t' := t') (d' := d') u hok hg hch
end
abbrev XK := Value → Option Addr → Hp → Prop
abbrev St := List (Option V)
abbrev VK := V → Hp → Prop
abbrev TE := St → Hp → VK → Prop
abbrev TT := St → Hp → (Bool → Hp → Prop) → Prop
abbrev TA := St → Hp → (List V → Hp → Prop) → Prop
structure Ends where
  nx : St → Hp → Prop
  rt : VK
  bk : St → Hp → Prop := fun _ _ => False
  ct : St → Hp → Prop := fun _ _ => False
abbrev TS := Ends → St → Hp → Prop
def EP (X : Cx) (pins : List (Addr × Obj)) (σ : St) (Q : VK) (u : Value) (s' : Shared) : Prop := ∃ v H', Inv X pins σ H' s' ∧ RelV v u ∧ Q v H'
def TP (X : Cx) (pins : List (Addr × Obj)) (σ : St) (Q : Bool → Hp → Prop) (b : Bool) (s' : Shared) : Prop := ∃ H', Inv X pins σ H' s' ∧ Q b H'
def AP (X : Cx) (pins : List (Addr × Obj)) (σ : St) (Q : List V → Hp → Prop) (us : List Value) (s' : Shared) : Prop := ∃ vs H', Inv X pins σ H' s' ∧ Vals vs us ∧ Q vs H'
def SP (X : Cx) (pins : List (Addr × Obj)) (D : Ends) (f : Flow) (s' : Shared) : Prop :=
  match f with
  | .next => ∃ σ' H', Inv X pins σ' H' s' ∧ D.nx σ' H'
  | .brk => ∃ σ' H', Inv X pins σ' H' s' ∧ D.bk σ' H'
  | .cont => ∃ σ' H', Inv X pins σ' H' s' ∧ D.ct σ' H'
  | .ret u => ∃ v σ' H', Inv X pins σ' H' s' ∧ RelV v u ∧ D.rt v H'
def PE (X : Cx) (e : Expr) (t : TE) : Prop :=
  ∀ (pins : List (Addr × Obj)) (s : Shared) (σ : St) (H : Hp) (Q : VK), Inv X pins σ H s → t σ H Q → wpAny (model X.prog X.w) X.A (eval e X.env) (EP X pins σ Q) X.xe s
def PT (X : Cx) (e : Expr) (t : TT) : Prop :=
  ∀ (pins : List (Addr × Obj)) (s : Shared) (σ : St) (H : Hp) (Q : Bool → Hp → Prop), Inv X pins σ H s → t σ H Q → wpAny (model X.prog X.w) X.A (isTrue e X.env (eval e X.env)) (TP X pins σ Q) X.xe s
def PW (X : Cx) (e : Expr) (t : TT) : Prop :=
  ∀ (whole : Sem Value) (pins : List (Addr × Obj)) (s : Shared) (σ : St) (H : Hp) (Q : Bool → Hp → Prop), Inv X pins σ H s → t σ H Q → wpAny (model X.prog X.w) X.A (isTrue e X.env whole) (TP X pins σ Q) X.xe s
theorem PW.pt {X : Cx} {e : Expr} {t : TT} (h : PW X e t) : PT X e t := h _
def PA (X : Cx) (es : List Expr) (t : TA) : Prop :=
  ∀ (pos : Pos) (pins : List (Addr × Obj)) (s : Shared) (σ : St) (H : Hp) (Q : List V → Hp → Prop), Inv X pins σ H s → t σ H Q → wpAny (model X.prog X.w) X.A (spliced (backTo pos (starEach es X.env))) (AP X pins σ Q) X.xe s
def PS (X : Cx) (st : Stmt) (t : TS) : Prop :=
  ∀ (pins : List (Addr × Obj)) (s : Shared) (σ : St) (H : Hp) (D : Ends), Inv X pins σ H s → t D σ H → wpAny (model X.prog X.w) X.A (exec st X.env) (SP X pins D) X.xe s
def PSs (X : Cx) (st : List Stmt) (t : TS) : Prop :=
  ∀ (pins : List (Addr × Obj)) (s : Shared) (σ : St) (H : Hp) (D : Ends), Inv X pins σ H s → t D σ H → wpAny (model X.prog X.w) X.A (execs st X.env) (SP X pins D) X.xe s
theorem thn {α : Type} {t : Sem α} {Q Q' : α → Shared → Prop} {M : Model} {A : Around} {E : Value → Shared → Prop} {s : Shared} (h : wpAny M A t Q E s) (hQ : ∀ a s, Q a s → Q' a s) : wpAny M A t Q' E s := wpAny_mono h hQ fun _ _ x => x
end L2
namespace L2
open PySem PySem.Spec PyProof.Rows
section
variable {X : Cx}
def tVar (i : Nat) : TE := fun σ H Q => ∃ v, σ[i]? = some (some v) ∧ Q v H
def tC (v : V) : TE := fun _ H Q => Q v H
theorem pe_var {i : Nat} {x : Str} {pos : Pos} (hN : X.N[i]? = some x) (hv : Vis X.env.scope x) (hd : (x == ("__debug__" : Str)) = false := by decide) (hcd : (x == ("__classdict__" : Str)) = false := by decide) : PE X (.Name x pos) (tVar i) := by
  intro pins s σ H Q I h
  obtain ⟨v, e, h⟩ := h
  obtain ⟨m, hn, hl⟩ := I.loc
  obtain ⟨u, r, l⟩ := hl i x v hN e hv
  have fin : EP X pins σ Q u s := ⟨v, H, I, r, h⟩
  rcases l with ⟨hk, hm⟩ | ⟨hk, c, hc, hcell⟩
  · exact wpAny_Name (wpAny_loadName_local I.ok.kind hk hn hm fin) hd
  · rcases hk with hk | hk
    · exact wpAny_Name (wpAny_loadName_cell I.ok.kind hk hc hcell fin) hd
    · exact wpAny_Name (wpAny_loadName_free I.ok.kind hk hc hcell fin hcd) hd
theorem pe_int {i j pos} : PE X (.Constant (.int i) j pos) (tC (.int i)) := fun _ _ _ H _ I h => wpAny_Constant_int ⟨.int i, H, I.tok _, ⟨_, rfl⟩, h⟩
theorem pe_bl {b j pos} : PE X (.Constant (.bool b) j pos) (tC (.bl b)) := fun _ _ _ H _ I h => Constant_bool ⟨.bl b, H, I, rfl, h⟩
theorem pe_non {j pos} : PE X (.Constant .none j pos) (tC .non) := fun _ _ _ H _ I h => Constant_none ⟨.non, H, I, rfl, h⟩
theorem pe_str {x j pos} : PE X (.Constant (.str x) j pos) (tC (.str x)) := fun _ _ _ H _ I h => Calls.Constant_str ⟨.str x, H, I.tok _, ⟨_, rfl⟩, h⟩
def Gl (X : Cx) (x : Str) : Prop := X.env.kindOf x = some .globalImplicit
theorem ld_glob {E : Value → Shared → Prop} {pins : List (Addr × Obj)} {s : Shared} {σ : St} {H : Hp} {x : Str} {u : Value} {pos : Pos} {Q : Value → Shared → Prop} (I : Inv X pins σ H s) (hg : Gl X x) (hm : X.mg x = some u) (h : Q u s)
    (hd : (x == ("__debug__" : Str)) = false := by decide) : wpAny (model X.prog X.w) X.A (eval (.Name x pos) X.env) Q E s :=
  Calls.Name_function_global I.ok.kind hg (Calls.loadGlobal_global (by rw [I.ok.glob]; exact I.mod.glob.keeps I.bk) hm h) hd
theorem ld_blt {E : Value → Shared → Prop} {pins : List (Addr × Obj)} {s : Shared} {σ : St} {H : Hp} {x : Str} {u : Value} {pos : Pos} {Q : Value → Shared → Prop} (I : Inv X pins σ H s) (hg : Gl X x) (hm : X.mg x = none) (hv : bootBuiltins x = some u) (h : Q u s)
    (hn : x ≠ "__name__" := by decide) (hd : (x == ("__debug__" : Str)) = false := by decide) : wpAny (model X.prog X.w) X.A (eval (.Name x pos) X.env) Q E s := by
  obtain ⟨mb, h1, h2⟩ := I.mod.blt
  exact Calls.Name_function_global I.ok.kind hg (Calls.loadGlobal_builtin (by rw [I.ok.glob]; exact I.mod.glob.keeps I.bk) hm (by rw [I.ok.blt]; exact h1.keeps I.bk) ((h2 x hn).trans hv) h) hd
theorem pe_glob {x : Str} {v : V} {u : Value} {pos : Pos} (hg : Gl X x) (hm : X.mg x = some u) (r : RelV v u) (hd : (x == ("__debug__" : Str)) = false := by decide) : PE X (.Name x pos) (tC v) :=
  fun _ _ _ H _ I h => ld_glob I hg hm ⟨v, H, I, r, h⟩ hd
theorem pe_bltn {x : Str} {v : V} {u : Value} {pos : Pos} (hg : Gl X x) (hm : X.mg x = none) (hv : bootBuiltins x = some u) (r : RelV v u) (hn : x ≠ "__name__" := by decide) (hd : (x == ("__debug__" : Str)) = false := by decide) : PE X (.Name x pos) (tC v) :=
  fun _ _ _ H _ I h => ld_blt I hg hm hv ⟨v, H, I, r, h⟩ hn hd
def t2I (ta tb : TE) (k : Int → Int → Hp → Prop) : St → Hp → Prop := fun σ H => ta σ H fun x H1 => tb σ H1 fun y H2 => ∃ i j, x = .int i ∧ y = .int j ∧ k i j H2
def tAdd (ta tb : TE) : TE := fun σ H Q => t2I ta tb (fun i j H2 => Q (.int (i + j)) H2) σ H
def tSub (ta tb : TE) : TE := fun σ H Q => t2I ta tb (fun i j H2 => Q (.int (i - j)) H2) σ H
def tMul (ta tb : TE) : TE := fun σ H Q => t2I ta tb (fun i j H2 => (-(2 ^ 64) < i ∧ i < 2 ^ 64) ∧ Q (.int (i * j)) H2) σ H
variable {a b : Expr} {ta tb : TE} {pos : Pos}
def PC (X : Cx) (op : CmpOp) (a b : Expr) (t : TE) : Prop :=
  ∀ (pins : List (Addr × Obj)) (s : Shared) (σ : St) (H : Hp) (Q : VK), Inv X pins σ H s → t σ H Q →
    wpAny (model X.prog X.w) X.A (eval a X.env) (fun v s₁ => wpAny (model X.prog X.w) X.A (eval b X.env) (fun u s₂ => wpAny (model X.prog X.w) X.A (compareOp op v u) (EP X pins σ Q) X.xe s₂) X.xe s₁) X.xe s
theorem nobehind (b : Expr) {op : CmpOp} (h : op ≠ .In) (h2 : op ≠ .NotIn) : behindInMarks op b = false := by
  have e1 : (op == CmpOp.In) = false := by cases op <;> first | rfl | exact absurd rfl h
  have e2 : (op == CmpOp.NotIn) = false := by cases op <;> first | rfl | exact absurd rfl h2
  cases b <;> simp [behindInMarks, e1, e2]
def tCmp (p : Int → Int → Bool) (ta tb : TE) : TE := fun σ H Q => t2I ta tb (fun i j H2 => Q (.bl (p i j)) H2) σ H
abbrev tLt : TE → TE → TE := tCmp fun i j => decide (i < j)
abbrev tLe : TE → TE → TE := tCmp fun i j => decide (i ≤ j)
abbrev tGt : TE → TE → TE := tCmp fun i j => decide (j < i)
abbrev tGe : TE → TE → TE := tCmp fun i j => decide (j ≤ i)
abbrev tEqI : TE → TE → TE := tCmp fun i j => decide (i = j)
abbrev tNeI : TE → TE → TE := tCmp fun i j => !decide (i = j)
def tIsN (ta : TE) : TE := fun σ H Q => ta σ H fun x H1 => Q (.bl (decide (x = .non))) H1
def tNotN (ta : TE) : TE := fun σ H Q => ta σ H fun x H1 => Q (.bl (!decide (x = .non))) H1
def tB (t : TE) : TT := fun σ H Q => t σ H fun x H1 => ∃ c, x = .bl c ∧ Q c H1
theorem pt_cmp {op : CmpOp} {t : TE} (h : PC X op a b t) (h1 : behindInMarks op b = false := by first | exact nobehind _ (by decide) (by decide) | rfl) : PT X (.Compare a [op] [b] pos) (tB t) := by
  intro pins s σ H Q I hw
  refine wpAny_isTrue_Compare1 (thn (h pins s σ H _ I hw) fun v s1 h1 => thn h1 fun u s2 h2 => thn h2 fun c s3 ⟨x, H1, I1, r1, q1⟩ => ?_) h1
  obtain ⟨d, rfl, q⟩ := q1
  cases r1
  exact wpAny_truthy_bool ⟨H1, I1, q⟩
theorem pt_val {e : Expr} {t : TE} (h : PE X e t) (he : ∀ whole, isTrue e X.env whole = (do let v ← whole; standAt e.pos; holding [v] (truthy v)) := by intro _; rfl) : PT X e (tB t) := by
  intro pins s σ H Q I hw
  refine isTrue_plain (thn (h pins s σ H _ I hw) fun v s1 ⟨x, H1, I1, r1, q1⟩ => ?_) (he _)
  obtain ⟨d, rfl, q⟩ := q1
  cases r1
  exact wpAny_truthy_bool ⟨H1, I1, q⟩
variable {tA tB' : TT} {rest : List Expr}
def tAnd (t u : TT) : TT := fun σ H Q => t σ H fun c H1 => if c = true then u σ H1 Q else Q false H1
def tOr (t u : TT) : TT := fun σ H Q => t σ H fun c H1 => if c = true then Q true H1 else u σ H1 Q
def tNot (t : TT) : TT := fun σ H Q => t σ H fun c H1 => Q (!c) H1
theorem pw_or1 (ha : PT X a tA) : PW X (.BoolOp .Or [a] pos) tA := by
  intro wh pins s σ H Q I h
  refine isTrue_or (thn (ha pins s σ H Q I h) fun c s1 e => ?_)
  cases c with
  | false => exact isTrue_or_nil e
  | true => exact e
theorem pw_or (ha : PT X a tA) (hb : PW X (.BoolOp .Or (b :: rest) pos) tB') : PW X (.BoolOp .Or (a :: b :: rest) pos) (tOr tA tB') := by
  intro wh pins s σ H Q I h
  refine isTrue_or (thn (ha pins s σ H _ I h) fun c s1 ⟨H1, I1, q1⟩ => ?_)
  cases c with
  | true => exact ⟨H1, I1, q1⟩
  | false => exact hb wh pins s1 σ H1 Q I1 q1
theorem pt_not (ha : PT X a tA) : PT X (.UnaryOp .Not a pos) (tNot tA) := by
  intro pins s σ H Q I h
  exact isTrue_not (ha pins s σ H (fun c H1 => Q (!c) H1) I h)
def tAndV (ta tb : TE) : TE := fun σ H Q => ta σ H fun x H1 => ∃ c, x = .bl c ∧ if c = true then tb σ H1 Q else Q (.bl false) H1
def tOrV (ta tb : TE) : TE := fun σ H Q => ta σ H fun x H1 => ∃ c, x = .bl c ∧ if c = true then Q (.bl true) H1 else tb σ H1 Q
def tNotV (ta : TE) : TE := fun σ H Q => ta σ H fun x H1 => ∃ c, x = .bl c ∧ Q (.bl (!c)) H1
theorem pe_one {op} {t : TE} (h : PE X a t) : PE X (.BoolOp op [a] pos) t := fun pins s σ H Q I hw => BoolOp_one (h pins s σ H Q I hw)
theorem pe_and (ha : PE X a ta) (hb : PE X (.BoolOp .And (b :: rest) pos) tb) : PE X (.BoolOp .And (a :: b :: rest) pos) (tAndV ta tb) := by
  intro pins s σ H Q I h
  refine BoolOp_and (thn (ha pins s σ H _ I h) fun v s1 ⟨x, H1, I1, r1, q1⟩ => ?_)
  obtain ⟨c, rfl, q1⟩ := q1
  cases r1
  refine wpAny_truthy_bool ?_
  cases c with
  | true => exact hb pins s1 σ H1 Q I1 q1
  | false => exact ⟨.bl false, H1, I1, rfl, q1⟩
theorem pe_not (ha : PE X a ta) : PE X (.UnaryOp .Not a pos) (tNotV ta) := by
  intro pins s σ H Q I h
  refine UnaryOp_ (thn (ha pins s σ H _ I h) fun v s1 ⟨x, H1, I1, r1, q1⟩ => ?_)
  obtain ⟨c, rfl, q1⟩ := q1
  cases r1
  exact not_of (wpAny_truthy_bool ⟨.bl (!c), H1, I1, rfl, q1⟩)
def tIf (t : TT) (ta tb : TE) : TE := fun σ H Q => t σ H fun c H1 => if c = true then ta σ H1 Q else tb σ H1 Q
theorem pe_ifExp {c : Expr} (hc : PT X c tA) (ha : PE X a ta) (hb : PE X b tb) : PE X (.IfExp c a b pos) (tIf tA ta tb) := by
  intro pins s σ H Q I h
  refine wpAny_IfExp (thn (hc pins s σ H _ I h) fun d s1 ⟨H1, I1, q1⟩ => ?_)
  cases d with
  | true => exact ha pins s1 σ H1 Q I1 q1
  | false => exact hb pins s1 σ H1 Q I1 q1
end
end L2
namespace L2
open PySem PySem.Spec PyProof.Rows
def SqL (K : PySem.W.Frag) (H : Hp) (a : Addr) (xs : List V) : Prop :=
  Rd H a (.lst xs) ∨
    ∃ (o : Obj) (its : Array Value) (n : Nat), K.lookup a = some o ∧ o.cls = .type "list" ∧ o.dict = none ∧ o.data = .seq its n ∧ its.size ≤ sizeLine ∧ Vals xs its.toList
def SqT (K : PySem.W.Frag) (H : Hp) (a : Addr) (xs : List V) : Prop :=
  Rd H a (.tup xs) ∨
    ∃ (o : Obj) (its : Array Value) (n : Nat), K.lookup a = some o ∧ o.cls = .type "tuple" ∧ o.data = .seq its n ∧ its.size ≤ sizeLine ∧ Vals xs its.toList
def absV : Value → Option V
  | .none => some .non
  | .bool b => some (.bl b)
  | .int i _ => some (.int i)
  | .str x _ => some (.str x)
  | .bytes b _ => some (.byt b)
  | .float b _ => some (.flt b)
  | .ref a => some (.ref a)
  | .type n => some (.ty n)
  | _ => none
theorem RelV.abs {x : V} {u : Value} (r : RelV x u) : absV u = some x := by
  cases x with
  | non => cases r; rfl
  | bl _ => cases r; rfl
  | int _ => obtain ⟨t, rfl⟩ := r; rfl
  | str _ => obtain ⟨t, rfl⟩ := r; rfl
  | byt _ => obtain ⟨t, rfl⟩ := r; rfl
  | flt _ => obtain ⟨t, rfl⟩ := r; rfl
  | ref _ => cases r; rfl
  | ty _ => cases r; rfl
theorem RelV.inj {x y : V} {u : Value} (r : RelV x u) (q : RelV y u) : x = y := Option.some.inj (r.abs.symm.trans q.abs)
theorem Vals.inj : ∀ {xs ys : List V} {us : List Value}, Vals xs us → Vals ys us → xs = ys
  | _, _, _, .nil, .nil => rfl
  | _, _, _, .cons r t, .cons r' t' => by rw [r.inj r', Vals.inj t t']
section
variable {X : Cx} {pins : List (Addr × Obj)} {σ : St} {H : Hp} {s : Shared} {a : Addr} {xs ys : List V}
theorem SqL.of {K : PySem.W.Frag} (h : H a = some (.lst xs)) : SqL K H a xs := .inl (.inl h)
theorem SqT.of {K : PySem.W.Frag} (h : H a = some (.tup xs)) : SqT K H a xs := .inl (.inl h)
theorem Inv.list (I : Inv X pins σ H s) (h : SqL X.K H a xs) : ∃ its : List Value, Vals xs its ∧ PlainL s.heap a its.toArray ∧ xs.length ≤ sizeLine := by
  rcases h with h | ⟨o, its, n, hk, hc, hd, hs, hz, r⟩
  · obtain ⟨z, its, n, r, e⟩ := h.ok I.hok
    exact ⟨its, r, ⟨_, n, e, rfl, rfl, rfl⟩, z⟩
  · refine ⟨its.toList, r, ⟨o, n, I.kIn a o hk, hc, hd, by simpa using hs⟩, ?_⟩
    have e := r.length
    simp only [Array.length_toList] at e
    omega
theorem Inv.tuple (I : Inv X pins σ H s) (h : SqT X.K H a xs) : ∃ its : List Value, Vals xs its ∧ IsTup s.heap a its.toArray ∧ xs.length ≤ sizeLine := by
  rcases h with h | ⟨o, its, n, hk, hc, hs, hz, r⟩
  · obtain ⟨z, its, r, p⟩ := h.ok I.hok
    exact ⟨its, r, p, z⟩
  · refine ⟨its.toList, r, ⟨o, I.kIn a o hk, hc, n, by simpa using hs⟩, ?_⟩
    have e := r.length
    simp only [Array.length_toList] at e
    omega
theorem Inv.list_inj (I : Inv X pins σ H s) (h : SqL X.K H a xs) (h' : SqL X.K H a ys) : xs = ys := by
  obtain ⟨its, r, ⟨o, n, e, _, _, d⟩, _⟩ := I.list h
  obtain ⟨its', r', ⟨o', n', e', _, _, d'⟩, _⟩ := I.list h'
  rw [e] at e'; cases e'
  rw [d] at d'
  injection d' with d1 _
  have : its = its' := by simpa using congrArg Array.toList d1
  subst this
  exact r.inj r'
theorem Inv.tuple_inj (I : Inv X pins σ H s) (h : SqT X.K H a xs) (h' : SqT X.K H a ys) : xs = ys := by
  obtain ⟨its, r, ⟨o, e, _, n, d⟩, _⟩ := I.tuple h
  obtain ⟨its', r', ⟨o', e', _, n', d'⟩, _⟩ := I.tuple h'
  rw [e] at e'; cases e'
  rw [d] at d'
  injection d' with d1 _
  have : its = its' := by simpa using congrArg Array.toList d1
  subst this
  exact r.inj r'
end
abbrev Cx.wish (X : Cx) (E : Value → Shared → Prop) : Cx := { X with xe := E }
abbrev Cx.nox (X : Cx) : Cx := X.wish fun _ _ => False
theorem Cx.Ok.wish {X : Cx} (ok : X.Ok) (E : Value → Shared → Prop) : (X.wish E).Ok :=
  ⟨ok.mod, ok.kind, ok.glob, ok.blt, ok.above, ok.inj, ok.has, ok.cab, ok.hd, ok.frames, ok.stk, ok.exf, ok.bs, ok.bsz, ok.noex, ok.exfs, ok.funs, ok.frf⟩
theorem Cx.Ok.unwish {X : Cx} {E : Value → Shared → Prop} (ok : (X.wish E).Ok) : X.Ok :=
  ⟨ok.mod, ok.kind, ok.glob, ok.blt, ok.above, ok.inj, ok.has, ok.cab, ok.hd, ok.frames, ok.stk, ok.exf, ok.bs, ok.bsz, ok.noex, ok.exfs, ok.funs, ok.frf⟩
section
variable {X : Cx} {pins : List (Addr × Obj)} {σ : St} {H : Hp} {s : Shared} {E : Value → Shared → Prop}
theorem Inv.wish (I : Inv X pins σ H s) (E : Value → Shared → Prop) : Inv (X.wish E) pins σ H s := ⟨I.ok.wish E, I.os, I.bare, I.base, I.loc, I.cell, I.free, I.freeC, I.pin, I.hok, I.len⟩
theorem Inv.unwish (I : Inv (X.wish E) pins σ H s) : Inv X pins σ H s := ⟨I.ok.unwish, I.os, I.bare, I.base, I.loc, I.cell, I.free, I.freeC, I.pin, I.hok, I.len⟩
theorem SP.unwish {D : Ends} {f : Flow} {s' : Shared} (h : SP (X.wish E) pins D f s') : SP X pins D f s' := by
  cases f with
  | next => obtain ⟨σ', H', I, q⟩ := h; exact ⟨σ', H', I.unwish, q⟩
  | brk => obtain ⟨σ', H', I, q⟩ := h; exact ⟨σ', H', I.unwish, q⟩
  | cont => obtain ⟨σ', H', I, q⟩ := h; exact ⟨σ', H', I.unwish, q⟩
  | ret u => obtain ⟨v, σ', H', I, r, q⟩ := h; exact ⟨v, σ', H', I.unwish, r, q⟩
theorem PE.nox {e : Expr} {t : TE} (h : PE X.nox e t) : PE X e t := fun pins s σ H Q I hw =>
  wpAny_mono (h pins s σ H Q (I.wish _) hw) (fun _ _ ⟨v, H', I', r, q⟩ => ⟨v, H', I'.unwish, r, q⟩) fun _ _ z => False.elim z
theorem PT.nox {e : Expr} {t : TT} (h : PT X.nox e t) : PT X e t := fun pins s σ H Q I hw =>
  wpAny_mono (h pins s σ H Q (I.wish _) hw) (fun _ _ ⟨H', I', q⟩ => ⟨H', I'.unwish, q⟩) fun _ _ z => False.elim z
theorem PSs.nox {st : List Stmt} {t : TS} (h : PSs X.nox st t) : PSs X st t := fun pins s σ H D I hw =>
  wpAny_mono (h pins s σ H D (I.wish _) hw) (fun _ _ q => q.unwish) fun _ _ z => False.elim z
end
section
variable {X : Cx} {st : Stmt} {rest : List Stmt} {t u : TS} {e : Expr} {te : TE} {pos : Pos}
def tNext : TS := fun D σ H => D.nx σ H
def tSeq (t u : TS) : TS := fun D σ H => t { D with nx := u D } σ H
theorem pss_nil : PSs X [] tNext := fun _ _ σ H _ I h => wpAny_execs_nil ⟨σ, H, I, h⟩
theorem pss_cons (h1 : PS X st t) (h2 : PSs X rest u) : PSs X (st :: rest) (tSeq t u) := by
  intro pins s σ H D I h
  refine wpAny_execs_cons (thn (h1 pins s σ H { D with nx := u D } I h) fun f s1 q => ?_)
  cases f with
  | next =>
    obtain ⟨σ', H', I', q⟩ := q
    exact h2 pins s1 σ' H' D I' q
  | ret v => exact q
  | brk => exact q
  | cont => exact q
theorem pss_one (h1 : PS X st t) : PSs X [st] t := by
  intro pins s σ H D I h
  refine wpAny_execs_cons (thn (h1 pins s σ H D I h) fun f s1 q => ?_)
  cases f with
  | next => exact wpAny_execs_nil q
  | ret v => exact q
  | brk => exact q
  | cont => exact q
def tBreak : TS := fun D σ H => D.bk σ H
def tCont : TS := fun D σ H => D.ct σ H
theorem Inv.quiet {pins : List (Addr × Obj)} {σ : St} {H : Hp} {s : Shared} (I : Inv X pins σ H s) : interactive X.env = false := by simp [interactive, I.ok.kind]
def tDrop (te : TE) : TS := fun D σ H => te σ H fun _ H1 => D.nx σ H1
theorem ps_expr (he : PE X e te) (hs : swapsWith e none pos.line X.env = pure false := by rfl) : PS X (.Expr e pos) (tDrop te) := by
  intro pins s σ H D I h
  exact wpAny_Expr_any (thn (he pins s σ H _ I h) fun v s1 ⟨x, H1, I1, r1, q1⟩ => ⟨σ, H1, I1, q1⟩) I.quiet hs
def tRet (te : TE) : TS := fun D σ H => te σ H D.rt
theorem ps_ret (he : PE X e te) : PS X (.Return (some e) pos) (tRet te) := by
  intro pins s σ H D I h
  exact wpAny_Return_some (thn (he pins s σ H _ I h) fun v s1 ⟨x, H1, I1, r1, q1⟩ => ⟨x, σ, H1, I1, r1, q1⟩)
def tRetN : TS := fun D _ H => D.rt .non H
def tIfS (c : TT) (t u : TS) : TS := fun D σ H => c σ H fun b H1 => if b = true then t D σ H1 else u D σ H1
theorem ps_if {c : Expr} {a b : List Stmt} {tc : TT} (hc : PT X c tc) (ha : PSs X a t) (hb : PSs X b u) : PS X (.If c a b pos) (tIfS tc t u) := by
  intro pins s σ H D I h
  refine wpAny_If (thn (hc pins s σ H _ I h) fun d s1 ⟨H1, I1, q1⟩ => ?_)
  cases d with
  | true => exact ha pins s1 σ H1 D I1 q1
  | false => exact hb pins s1 σ H1 D I1 q1
def tNever : TS := fun _ _ _ => False
end
abbrev TG := V → St → Hp → (St → Hp → Prop) → Prop
abbrev TGs := List V → St → Hp → (St → Hp → Prop) → Prop
def PG (X : Cx) (target : Expr) (t : TG) : Prop :=
  ∀ (pins : List (Addr × Obj)) (s : Shared) (σ : St) (H : Hp) (v : V) (u : Value) (Q : St → Hp → Prop), Inv X pins σ H s → RelV v u → t v σ H Q →
    wpAny (model X.prog X.w) X.A (assign target X.env u) (fun _ s' => ∃ σ' H', Inv X pins σ' H' s' ∧ Q σ' H') X.xe s
def PGs (X : Cx) (ts : List Expr) (t : TGs) : Prop :=
  ∀ (pins : List (Addr × Obj)) (s : Shared) (σ : St) (H : Hp) (vs : List V) (us : List Value) (Q : St → Hp → Prop), Inv X pins σ H s → Vals vs us → t vs σ H Q →
    wpAny (model X.prog X.w) X.A (assignInOrder ((assignEach ts X.env).map (·.2)) us) (fun _ s' => ∃ σ' H', Inv X pins σ' H' s' ∧ Q σ' H') X.xe s
abbrev TSet := V → V → V → Hp → (Hp → Prop) → Prop
def PSet (X : Cx) (t : TSet) : Prop :=
  ∀ (pins : List (Addr × Obj)) (s : Shared) (σ : St) (H : Hp) (o i v : V) (ov iv u : Value) (Q : Hp → Prop), Inv X pins σ H s → RelV o ov → RelV i iv → RelV v u → t o i v H Q →
    wpAny (model X.prog X.w) X.A (setItem ov iv u) (fun _ s' => ∃ H', Inv X pins σ H' s' ∧ Q H') X.xe s
abbrev TIp := V → V → Hp → VK → Prop
def PIp (X : Cx) (op : Operator) (t : TIp) : Prop :=
  ∀ (pins : List (Addr × Obj)) (s : Shared) (σ : St) (H : Hp) (x y : V) (v u : Value) (Q : VK), Inv X pins σ H s → RelV x v → RelV y u → t x y H Q →
    wpAny (model X.prog X.w) X.A (inplaceOp op v u) (EP X pins σ Q) X.xe s
section
variable {X : Cx} {pos : Pos}
def gName (i : Nat) : TG := fun v σ H Q => Q (σ.set i (some v)) H
theorem pg_name {i : Nat} {x : Str} (hN : X.N.Nodup) (hi : X.N[i]? = some x) (hx : Loc X.env.scope x) (hf : X.fn x = true ∨ X.env.scope.names.lookup x = some .local := by first | exact .inl rfl | exact .inr rfl | assumption) : PG X (.Name x pos) (gName i) := by
  intro pins s σ H v u Q I r h
  exact wpAny_assign_Name (store_ok I hN hi hx r (fun s' I' => ⟨_, H, I', h⟩) hf)
def gNil : TGs := fun vs σ H Q => vs = [] ∧ Q σ H
def gCons (t : TG) (u : TGs) : TGs := fun vs σ H Q => ∃ v r, vs = v :: r ∧ t v σ H fun σ' H' => u r σ' H' Q
theorem pgs_nil : PGs X [] gNil := by
  intro pins s σ H vs us Q I r h
  obtain ⟨e, h⟩ := h
  subst e
  cases r
  exact assignInOrder_nil ⟨σ, H, I, h⟩
theorem pgs_cons {e : Expr} {es : List Expr} {t : TG} {u : TGs} (h1 : PG X e t) (h2 : PGs X es u)
    (hs : (assignEach (e :: es) X.env).map (·.2) = assign e X.env :: (assignEach es X.env).map (·.2) := by rfl) : PGs X (e :: es) (gCons t u) := by
  intro pins s σ H vs us Q I r h
  obtain ⟨v, vr, e1, h⟩ := h
  subst e1
  cases r with
  | cons r rr =>
    rw [hs]
    refine assignInOrder_cons (thn (h1 pins s σ H _ _ _ I r h) fun _ s1 ⟨σ1, H1, I1, q1⟩ => ?_)
    exact h2 pins s1 σ1 H1 _ _ Q I1 rr q1
def gTup (K : PySem.W.Frag) (n : Nat) (t : TGs) : TG := fun v σ H Q => ∃ a xs, v = .ref a ∧ SqT K H a xs ∧ xs.length = n ∧ t xs σ H Q
theorem pg_tup {es : List Expr} {k : Nat} {t : TGs} {n : Nat} (hc : X.calm = true) (h : PGs X es t)
    (hn : (assignEach es X.env).length = n := by rfl) (hst : (assignEach es X.env).findIdx? (·.1) = none := by rfl) : PG X (.Tuple es k pos) (gTup X.K n t) := by
  intro pins s σ H v u Q I r hw
  obtain ⟨a, xs, e1, hq, hl, hw⟩ := hw
  subst e1
  cases r
  obtain ⟨its, rv, ht, hz⟩ := I.tuple hq
  refine assign_Tuple_tuple (I.ok.hd hc) ht (by simp [hn, ← hl, rv.length]) hst fun h' hx => ?_
  have I1 : Inv X pins σ H { s with heap := h' } := I.kept (t' := s.toks) fun b o e => hx b o (Nat.ne_of_lt (Heap.lt_size e)) e
  exact h pins _ σ H xs _ Q I1 (by simpa using rv) hw
def gSub (to ti : TE) (t : TSet) : TG := fun v σ H Q => to σ H fun o H1 => ti σ H1 fun i H2 => t o i v H2 fun H3 => Q σ H3
def tAsg (te : TE) (g : TG) : TS := fun D σ H => te σ H fun x H1 => g x σ H1 D.nx
theorem ps_asg {tg e : Expr} {te : TE} {g : TG} (he : PE X e te) (hg : PG X tg g) (hs : swapsWithSole [tg] e pos.line X.env = pure false := by rfl) (hw : swappedStores [tg] e X.env = pure none := by rfl)
    (h1 : (assignEach [tg] X.env).map (·.2) = [assign tg X.env] := by rfl) : PS X (.Assign [tg] e pos) (tAsg te g) := by
  intro pins s σ H D I h
  refine wpAny_Assign_stores (thn (he pins s σ H _ I h) fun v s1 ⟨x, H1, I1, r1, q1⟩ => ?_) hs hw
  rw [h1]
  exact thn (hg pins s1 σ H1 x v _ I1 r1 q1) fun _ s2 q => q
theorem ps_set {i : Nat} {x : Str} {e : Expr} {te : TE} {pos' : Pos} (hN : X.N.Nodup) (hi : X.N[i]? = some x) (hx : Loc X.env.scope x) (he : PE X e te) (hs : swapsWith e (some (.Name x pos')) pos.line X.env = pure false := by rfl) (hf : X.fn x = true ∨ X.env.scope.names.lookup x = some .local := by first | exact .inl rfl | exact .inr rfl | assumption) :
    PS X (.Assign [.Name x pos'] e pos) (tAsg te (gName i)) := by
  intro pins s σ H D I h
  refine wpAny_Assign_Name (thn (he pins s σ H _ I h) fun v s1 ⟨y, H1, I1, r1, q1⟩ => ?_) hs
  exact store_ok I1 hN hi hx r1 (fun s2 I2 => ⟨_, H1, I2, q1⟩) hf
def tPar (i j : Nat) (ta : TA) : TS := fun D σ H => ta σ H fun vs H1 => ∃ v w, vs = [v, w] ∧ D.nx ((σ.set i (some v)).set j (some w)) H1
theorem ps_par {i j : Nat} {x y : Str} {a b : Expr} {ta : TA} {px py pt : Pos} {kt k2 pt2} (hc : X.calm = true) (hN : X.N.Nodup) (hi : X.N[i]? = some x) (hj : X.N[j]? = some y) (hij : i ≠ j)
    (hx : X.env.scope.names.lookup x = some .local) (hy : X.env.scope.names.lookup y = some .local) (ha : PA X [a, b] ta)
    (hw : swappedStores [.Tuple [.Name x px, .Name y py] kt pt] (.Tuple [a, b] k2 pt2) X.env = pure (some [x, y]))
    (hs : swapsWithSole [.Tuple [.Name x px, .Name y py] kt pt] (.Tuple [a, b] k2 pt2) pos.line X.env = pure false := by rfl) :
    PS X (.Assign [.Tuple [.Name x px, .Name y py] kt pt] (.Tuple [a, b] k2 pt2) pos) (tPar i j ta) := by
  intro pins s σ H D I h
  rw [exec_Assign_arm]
  refine wpAny_bind (wpAny_standAt ?_)
  rw [hs]
  refine wpAny_bind (wpAny_pure ?_)
  rw [if_neg (by decide)]
  refine wpAny_bind (Tuple_ (thn (ha _ pins s σ H _ I h) fun us s1 ⟨vs, H1, I1, r1, q1⟩ => ?_))
  obtain ⟨v, w, e1, q1⟩ := q1
  subst e1
  obtain ⟨u1, u2, rfl, rv, rw'⟩ : ∃ u1 u2, us = [u1, u2] ∧ RelV v u1 ∧ RelV w u2 := by
    cases r1 with
    | cons p q =>
      cases q with
      | cons p' q' =>
        cases q'
        exact ⟨_, _, rfl, p, p'⟩
  refine wpAny_newObj_type ?_ (by show 2 ≤ sizeLine; decide)
  have I2 : Inv X pins σ H1 { s1 with heap := s1.heap.push { cls := .type "tuple", data := .seq [u1, u2].toArray } } := I1.kept (t' := s1.toks) fun b o e => Heap.get?_push_of_some _ e
  rw [hw]
  refine wpAny_bind (wpAny_pure ?_)
  show wpAny (model X.prog X.w) X.A (do rule "assign.swapped-stores"; let items ← unpackItems (.ref s1.heap.objs.size) 2 none; assignInOrder [fun v => bindName X.env y v, fun v => bindName X.env x v] items.reverse; pure Flow.next) _ _ _
  refine wpAny_bind (wpAny_rule (wpAny_bind (unpackItems_tuple (items := #[u1, u2]) (I.ok.hd hc) (IsTup.new s1.heap _) fun h' hx' => ?_)))
  have I3 := I2.kept (h' := h') (t' := s1.toks) fun b o e => hx' b o (Nat.ne_of_lt (Heap.lt_size e)) e
  show wpAny _ _ (assignInOrder [fun v => bindName X.env y v, fun v => bindName X.env x v] [u2, u1] >>= fun _ => pure Flow.next) _ _ _
  refine wpAny_bind (assignInOrder_cons (wpAny_bindName (store_ok I3 hN hj (.inl hy) rw' (fun s2 I4 => ?_) (.inr hy))))
  refine assignInOrder_cons (wpAny_bindName (store_ok I4 hN hi (.inl hx) rv (fun s3 I5 => assignInOrder_nil (wpAny_pure ?_)) (.inr hx)))
  rw [List.set_comm _ _ (Ne.symm hij)] at I5
  exact ⟨_, H1, I5, q1⟩
def tAug (i : Nat) (te : TE) (ti : TIp) : TS := fun D σ H => ∃ x, σ[i]? = some (some x) ∧ te σ H fun y H1 => ti x y H1 fun z H2 => D.nx (σ.set i (some z)) H2
def tAugS (to ti te : TE) (tget : V → V → Hp → VK → Prop) (tip : TIp) (tset : TSet) : TS := fun D σ H => to σ H fun o H1 => ti σ H1 fun i H2 => tget o i H2 fun x H3 => te σ H3 fun y H4 => tip x y H4 fun z H5 => tset o i z H5 fun H6 => D.nx σ H6
def PGet (X : Cx) (t : V → V → Hp → VK → Prop) : Prop :=
  ∀ (pins : List (Addr × Obj)) (s : Shared) (σ : St) (H : Hp) (o i : V) (ov iv : Value) (Q : VK), Inv X pins σ H s → RelV o ov → RelV i iv → t o i H Q →
    wpAny (model X.prog X.w) X.A (getItem ov iv) (EP X pins σ Q) X.xe s
def ipI (f : Int → Int → Int) : TIp := fun x y H Q => ∃ i j, x = .int i ∧ y = .int j ∧ Q (.int (f i j)) H
end
section
variable {X : Cx} {pos : Pos}
def tWhile (c : TT) (tb : TS) : TS := fun D σ H => ∃ W : Nat → St → Hp → Prop, (∃ m, W m σ H) ∧ ∀ m σ H, W m σ H →
  c σ H fun b H1 => if b = true then ∃ N : St → Hp → Prop, (∀ σ' H', N σ' H' → ∃ m', m' < m ∧ W m' σ' H') ∧ tb { D with nx := N, ct := N, bk := D.nx } σ H1 else D.nx σ H1
theorem ps_while {c : Expr} {body : List Stmt} {tc : TT} {tb : TS} (hp : PassesOwn (model X.prog X.w) X.A X.env X.xe) (hc : PT X c tc) (hb : PSs X body tb) : PS X (.While c body [] pos) (tWhile tc tb) := by
  intro pins s σ H D I h
  obtain ⟨W, ⟨m0, w0⟩, turn⟩ := h
  refine wpAny_While (codeAny_whileLoop (fun n s' => ∃ σ' H', Inv X pins σ' H' s' ∧ W n σ' H') ?_ m0 ⟨σ, H, I, w0⟩)
  rintro n s1 ⟨σ1, H1, I1, w1⟩
  refine wpAny_passesOwn hp (thn (hc pins s1 σ1 H1 _ I1 (turn n σ1 H1 w1)) fun b s2 ⟨H2, I2, q2⟩ => ?_)
  cases b with
  | true =>
    obtain ⟨N, hN, q2⟩ := q2
    rw [if_pos rfl]
    refine wpAny_passesOwn hp (thn (hb pins s2 σ1 H2 _ I2 q2) fun f s3 q3 => ?_)
    cases f with
    | next =>
      obtain ⟨σ3, H3, I3, n3⟩ := q3
      obtain ⟨m', hm, w3⟩ := hN σ3 H3 n3
      exact ⟨m', hm, σ3, H3, I3, w3⟩
    | cont =>
      obtain ⟨σ3, H3, I3, n3⟩ := q3
      obtain ⟨m', hm, w3⟩ := hN σ3 H3 n3
      exact ⟨m', hm, σ3, H3, I3, w3⟩
    | brk => exact q3
    | ret v => exact q3
  | false =>
    rw [if_neg Bool.false_ne_true]
    exact wpAny_execs_nil ⟨σ1, H2, I2, q2⟩
end
structure It where
  go : Nat → Hp → Prop
  yld : Nat → Hp → V → Hp → Prop
  stop : Nat → Hp → Prop
def FpOk (X : Cx) (pins : List (Addr × Obj)) (H : Hp) (b : Addr) : Prop :=
  H b = none ∧ b ≠ X.env.locals ∧ b ∉ X.fs ∧ (b ∈ X.ex ∨ X.s₀.heap.objs.size ≤ b) ∧ (∀ x c, X.env.cells.lookup x = some c → c ≠ b) ∧ ∀ p ∈ X.pn ++ pins, p.1 ≠ b
theorem Inv.fpOk {X : Cx} {pins : List (Addr × Obj)} {σ : St} {H H' : Hp} {s : Shared} {b : Addr} (I : Inv X pins σ H s) (hb : s.heap.objs.size ≤ b) (hn : H' b = none) : FpOk X pins H' b := by
  refine ⟨hn, Nat.ne_of_gt (Nat.lt_of_lt_of_le I.lt hb), I.nofs hb, .inr (Nat.le_trans I.sz hb), fun x c e z => ?_, fun p hp z => ?_⟩
  · obtain ⟨v, q⟩ := I.cell x c e
    exact absurd (Nat.lt_of_lt_of_le q.lt (by rw [z]; exact hb)) (Nat.lt_irrefl _)
  · exact absurd (Nat.lt_of_lt_of_le (Heap.lt_size (I.pin p hp).1) (by rw [z]; exact hb)) (Nat.lt_irrefl _)
structure Turn (P : Program) (w : World) (K : PySem.W.Frag) (tg : Expr) (J : It) (fp : List Addr) (it : Addr) (tn : Nat → Heap → Prop) : Prop where
  mem : it ∈ fp
  obj : ∀ i h, tn i h → ∀ b ∈ fp, ∃ o, h.get? b = some o ∧ ∀ v, o.data ≠ .cell v
  keep : ∀ i h h', tn i h → (∀ b ∈ fp, ∀ o, h.get? b = some o → h'.get? b = some o) → tn i h'
  item : ∀ (X : Cx), X.prog = P → X.w = w → X.K = K → X.calm = true → ∀ (i : Nat) (pins : List (Addr × Obj)) (s : Shared) (σ : St) (H : Hp) (E : Value → Shared → Prop), Inv X pins σ H s → (∀ b ∈ fp, FpOk X pins H b) → tn i s.heap → J.go i H →
    wpAny (model P w) X.A (pyNext (.ref it)) (fun r s1 => ∃ u, r = some u ∧
      wpAny (model P w) X.A (letOwnedTupleGo tg (.ref it) u) (fun _ s2 => ∃ x H', Inv X pins σ H' s2 ∧ RelV x u ∧ J.yld i H x H' ∧ tn (i + 1) s2.heap ∧ ∀ b ∈ fp, H' b = none) E s1) E s
  done : ∀ (X : Cx), X.prog = P → X.w = w → X.K = K → X.calm = true → ∀ (i : Nat) (pins : List (Addr × Obj)) (s : Shared) (σ : St) (H : Hp) (E : Value → Shared → Prop), Inv X pins σ H s → (∀ b ∈ fp, FpOk X pins H b) → tn i s.heap → J.stop i H →
    wpAny (model P w) X.A (pyNext (.ref it)) (fun r s1 => r = none ∧ Inv X pins σ H s1) E s
  self : ∀ (A : Around) (i : Nat) (s : Shared) (Q : Value → Shared → Prop) (E : Value → Shared → Prop), tn i s.heap → Q (.ref it) s → wpAny (model P w) A (pyIter (.ref it)) Q E s
abbrev TI := St → Hp → (It → Hp → Prop) → Prop
def PIE (X : Cx) (pins : List (Addr × Obj)) (σ : St) (tg : Expr) (R : It → Hp → Prop) (itv : Value) (s2 : Shared) : Prop :=
  ∃ (it : Addr) (fp : List Addr) (tn : Nat → Heap → Prop) (J : It) (H' : Hp), itv = .ref it ∧ Inv X pins σ H' s2 ∧ Turn X.prog X.w X.K tg J fp it tn ∧ tn 0 s2.heap ∧ (∀ b ∈ fp, FpOk X pins H' b) ∧ R J H'
def PI (X : Cx) (tg iter : Expr) (wi : TI) : Prop :=
  ∀ (pins : List (Addr × Obj)) (s : Shared) (σ : St) (H : Hp) (R : It → Hp → Prop), Inv X pins σ H s → wi σ H R →
    wpAny (model X.prog X.w) X.A (eval iter X.env) (fun v s1 => wpAny (model X.prog X.w) X.A (pyIter v) (PIE X pins σ tg R) X.xe s1) X.xe s
theorem go_of {M : Model} {A : Around} {E : Value → Shared → Prop} {s : Shared} {tg : Expr} {it : Addr} {u : Value} {o : Obj} {n : String} {vs : Array Value} {Q : Unit → Shared → Prop} (ho : s.heap.get? it = some o) (hc : o.cls = .type n) (hd : o.data = .fields vs)
    (hn : ["enumerate", "zip", "dict_itemiterator", "dict_reverseitemiterator", "odict_iterator", "itertools.zip_longest", "itertools.pairwise"].contains n = false) (hQ : Q () s) : wpAny M A (letOwnedTupleGo tg (.ref it) u) Q E s := by
  unfold letOwnedTupleGo
  cases tg <;> first
    | exact wpAny_pure hQ
    | (cases u <;> first
        | exact wpAny_pure hQ
        | (refine wpAny_bind (wpAny_load ho ?_)
           rw [hc, hd]
           show wpAny M A (if (["enumerate", "zip", "dict_itemiterator", "dict_reverseitemiterator", "odict_iterator", "itertools.zip_longest", "itertools.pairwise"].contains n && vs[0]? == some (rawInt _)) = true then _ else _) Q E s
           rw [if_neg (by intro h; rw [hn, Bool.false_and] at h; cases h)]
           exact wpAny_pure hQ))
def Itl (K : PySem.W.Frag) (a : Addr) : It :=
  ⟨fun i H => ∃ xs x, SqL K H a xs ∧ xs[i]? = some x, fun i H x H' => H' = H ∧ ∀ xs, SqL K H a xs → xs[i]? = some x, fun i H => ∃ xs, SqL K H a xs ∧ xs.length ≤ i⟩
def Itt (K : PySem.W.Frag) (a : Addr) : It :=
  ⟨fun i H => ∃ xs x, SqT K H a xs ∧ xs[i]? = some x, fun i H x H' => H' = H ∧ ∀ xs, SqT K H a xs → xs[i]? = some x, fun i H => ∃ xs, SqT K H a xs ∧ xs.length ≤ i⟩
def Itr (lo : Int) (n : Nat) : It := ⟨fun i _ => i < n, fun i H x H' => H' = H ∧ x = .int (lo + i), fun i _ => n ≤ i⟩
theorem turn_list {P : Program} {w : World} {K : PySem.W.Frag} {tg : Expr} (a it : Addr) : Turn P w K tg (Itl K a) [it] it (fun i h => h.IsListIter it a i) where
  mem := by simp
  obj := fun i h st b hb => by
    have e : b = it := by simpa using hb
    subst e
    obtain ⟨o, e, c, d⟩ := st
    exact ⟨o, e, fun v z => by rw [d] at z; cases z⟩
  keep := fun i h h' st k => st.at fun o e => k it (by simp) o e
  item := by
    intro X hP hw hK hc i pins s σ H E I hf st hg
    subst hP hw hK
    obtain ⟨xs, x, hq, hx⟩ := hg
    obtain ⟨its, rv, p, hz⟩ := I.list hq
    obtain ⟨u, hu, ru⟩ := rv.get hx
    obtain ⟨f0, f1, f2, f3, f4, f5⟩ := hf it (by simp)
    refine wpAny_pyNext_list_item st p.isList (x := u) (by simpa using hu) fun h' st' sb => ?_
    have I1 : Inv X pins σ H { s with heap := h' } := I.turned (t' := s.toks) (fun b o hb e => (sb.2 b hb).trans e) f0 f1 f3 f4 f5
    obtain ⟨o, e, c, d⟩ := id st'
    exact ⟨u, rfl, go_of (s := { s with heap := h' }) e c d (by decide) ⟨x, H, I1, ru, ⟨rfl, fun ys hy => by rw [I.list_inj hy hq]; exact hx⟩, st', fun b hb => (hf b hb).1⟩⟩
  done := by
    intro X hP hw hK hc i pins s σ H E I hf st hg
    subst hP hw hK
    obtain ⟨xs, hq, hx⟩ := hg
    obtain ⟨its, rv, p, hz⟩ := I.list hq
    obtain ⟨f0, f1, f2, f3, f4, f5⟩ := hf it (by simp)
    have hl := rv.length
    exact wpAny_pyNext_list_end (I.ok.hd hc) st p.isList (by simp; omega) fun h' eb => ⟨rfl, I.turned (t' := s.toks) (fun b o hb e => eb b o hb e) f0 f1 f3 f4 f5⟩
  self := fun _ _ _ _ _ st h => wpAny_pyIter_listiter st h
theorem turn_tuple {P : Program} {w : World} {K : PySem.W.Frag} {tg : Expr} (a it : Addr) : Turn P w K tg (Itt K a) [it] it (fun i h => h.IsTupleIter it a i) where
  mem := by simp
  obj := fun i h st b hb => by
    have e : b = it := by simpa using hb
    subst e
    obtain ⟨o, e, c, d⟩ := st
    exact ⟨o, e, fun v z => by rw [d] at z; cases z⟩
  keep := fun i h h' st k => st.at fun o e => k it (by simp) o e
  item := by
    intro X hP hw hK hc i pins s σ H E I hf st hg
    subst hP hw hK
    obtain ⟨xs, x, hq, hx⟩ := hg
    obtain ⟨its, rv, p, hz⟩ := I.tuple hq
    obtain ⟨u, hu, ru⟩ := rv.get hx
    obtain ⟨f0, f1, f2, f3, f4, f5⟩ := hf it (by simp)
    refine wpAny_pyNext_tuple_item st (show s.heap.IsTuple a its.toArray from p) (x := u) (by simpa using hu) fun h' st' sb => ?_
    have I1 : Inv X pins σ H { s with heap := h' } := I.turned (t' := s.toks) (fun b o hb e => (sb.2 b hb).trans e) f0 f1 f3 f4 f5
    obtain ⟨o, e, c, d⟩ := id st'
    exact ⟨u, rfl, go_of (s := { s with heap := h' }) e c d (by decide) ⟨x, H, I1, ru, ⟨rfl, fun ys hy => by rw [I.tuple_inj hy hq]; exact hx⟩, st', fun b hb => (hf b hb).1⟩⟩
  done := by
    intro X hP hw hK hc i pins s σ H E I hf st hg
    subst hP hw hK
    obtain ⟨xs, hq, hx⟩ := hg
    obtain ⟨its, rv, p, hz⟩ := I.tuple hq
    obtain ⟨f0, f1, f2, f3, f4, f5⟩ := hf it (by simp)
    have hl := rv.length
    exact wpAny_pyNext_tuple_end (I.ok.hd hc) st (show s.heap.IsTuple a its.toArray from p) (by simp; omega) fun h' eb => ⟨rfl, I.turned (t' := s.toks) (fun b o hb e => eb b o hb e) f0 f1 f3 f4 f5⟩
  self := fun _ _ _ _ _ st h => wpAny_pyIter_tupleiter st h
theorem turn_range {P : Program} {w : World} {K : PySem.W.Frag} {tg : Expr} (it : Addr) (lo : Int) (n : Nat) : Turn P w K tg (Itr lo n) [it] it (fun i h => IsRangeIter h it (lo + (i : Nat) * 1) ((n : Int) - (i : Nat)) 1) where
  mem := by simp
  obj := fun i h st b hb => by
    have e : b = it := by simpa using hb
    subst e
    exact ⟨_, st, fun v z => by
      have z' : Data.fields _ = Data.cell v := z
      cases z'⟩
  keep := fun i h h' st k => k it (by simp) _ st
  item := by
    intro X hP hw hK hc i pins s σ H E I hf st hg
    subst hP hw hK
    obtain ⟨f0, f1, f2, f3, f4, f5⟩ := hf it (by simp)
    have W := Walks.range (prog := X.prog) (w := X.w) (I.ok.hd hc) it lo 1 n
    refine W.item i s _ _ hg st fun v h' tk hv st' kk => ?_
    obtain ⟨t, rfl⟩ := hv
    have I1 : Inv X pins σ H { s with heap := h', toks := tk } := I.turned (fun b o hb e => kk b o (by simpa using hb) e) f0 f1 f3 f4 f5
    refine ⟨_, rfl, go_of (s := { s with heap := h', toks := tk }) (n := "range_iterator") st' rfl rfl (by decide) ⟨.int (lo + i), H, I1, ⟨t, ?_⟩, ⟨rfl, rfl⟩, st', fun b hb => (hf b hb).1⟩⟩
    rw [Int.mul_one]
  done := by
    intro X hP hw hK hc i pins s σ H E I hf st hg
    subst hP hw hK
    obtain ⟨f0, f1, f2, f3, f4, f5⟩ := hf it (by simp)
    exact wpAny_pyNext_range_end (I.ok.hd hc) st (by have : n ≤ i := hg; omega) fun h' eb => ⟨rfl, I.turned (t' := s.toks) (fun b o hb e => eb b o hb e) f0 f1 f3 f4 f5⟩
  self := fun _ _ _ _ _ st h => wpAny_pyIter_rangeiter st h
end L2
namespace L2
open PySem PySem.Spec PyProof.Rows
section
variable {X : Cx} {tg : Expr}
def iList (K : PySem.W.Frag) (tl : TE) : TI := fun σ H R => tl σ H fun x H1 => ∃ a, x = .ref a ∧ (∃ xs, SqL K H1 a xs) ∧ R (Itl K a) H1
def iTup (K : PySem.W.Frag) (tl : TE) : TI := fun σ H R => tl σ H fun x H1 => ∃ a, x = .ref a ∧ (∃ xs, SqT K H1 a xs) ∧ R (Itt K a) H1
theorem pi_list {l : Expr} {tl : TE} (hl : PE X l tl) : PI X tg l (iList X.K tl) := by
  intro pins s σ H R I h
  refine thn (hl pins s σ H _ I h) fun v s1 ⟨x, H1, I1, r1, q1⟩ => ?_
  obtain ⟨a, e, ⟨xs, hq⟩, q⟩ := q1
  subst e
  cases r1
  obtain ⟨its, rv, p, hz⟩ := I1.list hq
  refine wpAny_pyIter_list p.isList ?_
  refine ⟨s1.heap.objs.size, [s1.heap.objs.size], _, _, H1, rfl, I1.kept (t' := s1.toks) fun b o e => Heap.get?_push_of_some _ e, turn_list a _, ⟨_, Heap.get?_push_size _ rfl, rfl, rfl⟩, fun b hb => ?_, q⟩
  have e : b = s1.heap.objs.size := by simpa using hb
  subst e
  exact I1.fpOk (Nat.le_refl _) (I1.hok.fresh (Nat.le_refl _))
theorem pi_tup {l : Expr} {tl : TE} (hl : PE X l tl) : PI X tg l (iTup X.K tl) := by
  intro pins s σ H R I h
  refine thn (hl pins s σ H _ I h) fun v s1 ⟨x, H1, I1, r1, q1⟩ => ?_
  obtain ⟨a, e, ⟨xs, hq⟩, q⟩ := q1
  subst e
  cases r1
  obtain ⟨its, rv, p, hz⟩ := I1.tuple hq
  refine wpAny_pyIter_tuple (show s1.heap.IsTuple a its.toArray from p) ?_
  refine ⟨s1.heap.objs.size, [s1.heap.objs.size], _, _, H1, rfl, I1.kept (t' := s1.toks) fun b o e => Heap.get?_push_of_some _ e, turn_tuple a _, ⟨_, Heap.get?_push_size _ rfl, rfl, rfl⟩, fun b hb => ?_, q⟩
  have e : b = s1.heap.objs.size := by simpa using hb
  subst e
  exact I1.fpOk (Nat.le_refl _) (I1.hok.fresh (Nat.le_refl _))
theorem range_it {pins : List (Addr × Obj)} {σ : St} {H : Hp} {s : Shared} {R : It → Hp → Prop} {E : Value → Shared → Prop} {lo hi : Int} {t u v : Tok} {tk : Nat} (I : Inv X pins σ H s) (h1 : -(2 ^ 62) ≤ lo) (h2 : lo < 2 ^ 62) (h3 : -(2 ^ 62) ≤ hi) (h4 : hi < 2 ^ 62)
    (q : R (Itr lo (hi - lo).toNat) H) : wpAny (model X.prog X.w) X.A (pyIter (.ref s.heap.objs.size)) (PIE X pins σ tg R) E { s with heap := s.heap.push { cls := .type "range", data := .fields #[.int lo t, .int hi u, .int 1 v] }, toks := tk } := by
  refine wpAny_pyIter_range (IsRange.new ..) (small_one h1 h2 h3 h4) ?_
  have I1 : Inv X pins σ H { s with heap := s.heap.push { cls := .type "range", data := .fields #[.int lo t, .int hi u, .int 1 v] }, toks := tk } := I.kept fun b o e => Heap.get?_push_of_some _ e
  refine ⟨(s.heap.push { cls := .type "range", data := .fields #[.int lo t, .int hi u, .int 1 v] }).objs.size, [(s.heap.push { cls := .type "range", data := .fields #[.int lo t, .int hi u, .int 1 v] }).objs.size], _, _, H, rfl,
    I1.kept (t' := tk) fun b o e => Heap.get?_push_of_some _ e, turn_range _ lo (hi - lo).toNat, ?_, fun b hb => ?_, q⟩
  · have e1 : lo + ((0 : Nat) : Int) * 1 = lo := by simp
    have e2 : (((hi - lo).toNat : Nat) : Int) - ((0 : Nat) : Int) = Builtin.Range.rangeSize lo hi 1 := by rw [rangeSize_one]; split <;> omega
    show IsRangeIter _ _ (lo + ((0 : Nat) : Int) * 1) ((((hi - lo).toNat : Nat) : Int) - ((0 : Nat) : Int)) 1
    rw [e1, e2]
    exact Heap.get?_push_size _ rfl
  · have e : b = (s.heap.push { cls := .type "range", data := .fields #[.int lo t, .int hi u, .int 1 v] }).objs.size := by simpa using hb
    subst e
    exact I1.fpOk (Nat.le_refl _) (I1.hok.fresh (Nat.le_refl _))
def iRng1 (ta : TA) : TI := fun σ H R => ta σ H fun vs H1 => ∃ j : Int, vs = [.int j] ∧ -(2 ^ 62) ≤ j ∧ j < 2 ^ 62 ∧ R (Itr 0 j.toNat) H1
def iRng2 (ta : TA) : TI := fun σ H R => ta σ H fun vs H1 => ∃ i j : Int, vs = [.int i, .int j] ∧ (-(2 ^ 62) ≤ i ∧ i < 2 ^ 62 ∧ -(2 ^ 62) ≤ j ∧ j < 2 ^ 62) ∧ R (Itr i (j - i).toNat) H1
theorem pi_range1 {a : Expr} {ta : TA} {p pos : Pos} (hg : Gl X "range") (hm : X.mg "range" = none) (ha : PA X [a] ta) (hs : starEach [a] X.env = [(false, eval a X.env)] := by rfl) : PI X tg (.Call (.Name "range" p) [a] [] pos) (iRng1 ta) := by
  intro pins s σ H R I h
  refine Call_ (ld_blt I hg hm boot_range (PyProof.Rows.callWith_type1 (thn (ha pos pins s σ H _ I h) fun us s1 ⟨vs, H1, I1, r1, q1⟩ => ?_) hs rfl))
  obtain ⟨j, e, q1, q2, q⟩ := q1
  subst e
  cases r1 with
  | cons r rr =>
    cases rr
    obtain ⟨t, rfl⟩ := r
    exact call_range_1 (range_it I1 (by omega) (by omega) q1 q2 (by simpa using q))
def tFor (wi : TI) (g : TG) (tb : TS) : TS := fun D σ H => wi σ H fun J H1 => ∃ W : Nat → Nat → St → Hp → Prop, (∃ m, W 0 m σ H1) ∧ ∀ i m σ H, W i m σ H →
  (J.stop i H ∧ D.nx σ H) ∨ (J.go i H ∧ ∃ N : St → Hp → Prop, (∀ σ' H', N σ' H' → ∃ m', m' < m ∧ W (i + 1) m' σ' H') ∧ ∀ x H', J.yld i H x H' → g x σ H' fun σ2 H2 => tb { D with nx := N, ct := N, bk := D.nx } σ2 H2)
def pinsAt (fp : List Addr) (h : Heap) : List (Addr × Obj) := fp.filterMap fun b => (h.get? b).map fun o => (b, o)
theorem mem_pinsAt {fp : List Addr} {h : Heap} {b : Addr} {o : Obj} (hb : b ∈ fp) (e : h.get? b = some o) : (b, o) ∈ pinsAt fp h := List.mem_filterMap.mpr ⟨b, hb, by rw [e]; rfl⟩
theorem of_pinsAt {fp : List Addr} {h : Heap} {p : Addr × Obj} (hp : p ∈ pinsAt fp h) : p.1 ∈ fp ∧ h.get? p.1 = some p.2 := by
  obtain ⟨b, hb, e⟩ := List.mem_filterMap.mp hp
  cases q : h.get? b with
  | none => rw [q] at e; cases e
  | some o =>
    rw [q] at e
    have e' : (b, o) = p := Option.some.inj e
    subst e'
    exact ⟨hb, q⟩
theorem Inv.pinned {pins : List (Addr × Obj)} {σ : St} {H : Hp} {s : Shared} {fp : List Addr} (I : Inv X pins σ H s) (hf : ∀ b ∈ fp, FpOk X pins H b) (ho : ∀ b ∈ fp, ∃ o, s.heap.get? b = some o ∧ ∀ v, o.data ≠ .cell v) : Inv X (pins ++ pinsAt fp s.heap) σ H s :=
  I.pins_of fun p hp => (List.mem_append.mp hp).elim (fun z => I.pin p (List.mem_append_right _ z)) fun z => by
    obtain ⟨hb, e⟩ := of_pinsAt z
    obtain ⟨f0, f1, f2, _⟩ := hf p.1 hb
    obtain ⟨o, e', d⟩ := ho p.1 hb
    rw [e] at e'; cases e'
    exact ⟨e, f0, f1, f2, d⟩
theorem Inv.unpinned {pins pl : List (Addr × Obj)} {σ : St} {H : Hp} {s : Shared} (I : Inv X (pins ++ pl) σ H s) : Inv X pins σ H s := I.pins_of fun p hp => I.pin p (List.mem_append_right _ (List.mem_append_left _ hp))
theorem ps_for {iter : Expr} {body : List Stmt} {wi : TI} {g : TG} {tb : TS} {pos : Pos} (hp : PassesOwn (model X.prog X.w) X.A X.env X.xe) (hc : X.calm = true) (hi : PI X tg iter wi) (hg : PG X tg g) (hb : PSs X body tb)
    (hs : ∀ x, foldedSetIterable iter X.env x = pure x := by intro _; rfl) : PS X (.For tg iter body [] pos) (tFor wi g tb) := by
  intro pins s σ H D I h
  refine wpAny_For (thn (hi pins s σ H _ I h) fun v s1 h1 => thn h1 fun itv s2 h2 => ?_) hs
  obtain ⟨it, fp, tn, J, H2, e, I2, T, st2, f2, W, ⟨m0, w0⟩, turn⟩ := h2
  subst e
  have stat : ∀ {H' : Hp}, (∀ b ∈ fp, H' b = none) → ∀ b ∈ fp, FpOk X pins H' b := fun hn b hb => ⟨hn b hb, (f2 b hb).2⟩
  refine codeAny_forLoop_any (fun n s' => ∃ i σ' H', Inv X pins σ' H' s' ∧ tn i s'.heap ∧ (∀ b ∈ fp, H' b = none) ∧ W i n σ' H') ?_ m0 ⟨0, σ, H2, I2, st2, fun b hb => (f2 b hb).1, w0⟩
  rintro n s3 ⟨i, σ3, H3, I3, st3, fr3, w3⟩
  rcases turn i n σ3 H3 w3 with ⟨stop, qn⟩ | ⟨go, N, hN, step⟩
  · refine wpAny_passesOwn hp (thn (T.done X rfl rfl rfl hc i pins s3 σ3 H3 X.xe I3 (stat fr3) st3 stop) fun r s4 ⟨hr, I4⟩ => ?_)
    subst hr
    exact wpAny_execs_nil ⟨σ3, H3, I4, qn⟩
  · refine wpAny_passesOwn hp (thn (T.item X rfl rfl rfl hc i pins s3 σ3 H3 X.xe I3 (stat fr3) st3 go) fun r s4 ⟨u, hr, h4⟩ => ?_)
    subst hr
    refine wpAny_passesOwn hp (thn h4 fun _ s5 ⟨x, H5, I5, r5, y5, st5, fr5⟩ => ?_)
    have I5' := I5.pinned (stat fr5) (T.obj _ _ st5)
    refine wpAny_passesOwn hp (thn (hg _ s5 σ3 H5 x u _ I5' r5 (step x H5 y5)) fun _ s6 ⟨σ6, H6, I6, q6⟩ => ?_)
    refine wpAny_passesOwn hp (thn (hb _ s6 σ6 H6 _ I6 q6) fun f s7 q7 => ?_)
    have again : ∀ {σ7 : St} {H7 : Hp}, Inv X (pins ++ pinsAt fp s5.heap) σ7 H7 s7 → N σ7 H7 → ∃ m, m < n ∧ ∃ i σ' H', Inv X pins σ' H' s7 ∧ tn i s7.heap ∧ (∀ b ∈ fp, H' b = none) ∧ W i m σ' H' := fun {σ7 H7} I7 n7 => by
      obtain ⟨m', hm, w7⟩ := hN σ7 H7 n7
      refine ⟨m', hm, i + 1, σ7, H7, I7.unpinned, T.keep _ _ _ st5 fun b hb o e => (I7.pin (b, o) (List.mem_append_right _ (List.mem_append_right _ (mem_pinsAt hb e)))).1, fun b hb => ?_, w7⟩
      obtain ⟨o, e, d⟩ := T.obj _ _ st5 b hb
      exact (I7.pin (b, o) (List.mem_append_right _ (List.mem_append_right _ (mem_pinsAt hb e)))).2.1
    cases f with
    | next => obtain ⟨σ7, H7, I7, n7⟩ := q7; exact again I7 n7
    | cont => obtain ⟨σ7, H7, I7, n7⟩ := q7; exact again I7 n7
    | brk => obtain ⟨σ7, H7, I7, q7⟩ := q7; exact ⟨σ7, H7, I7.unpinned, q7⟩
    | ret v => obtain ⟨x7, σ7, H7, I7, r7, q7⟩ := q7; exact ⟨x7, σ7, H7, I7.unpinned, r7, q7⟩
end
end L2
namespace L2
open PySem PySem.Spec PyProof.Rows
abbrev R2 := V → V → Hp → VK → Prop
def OpR (X : Cx) (f : Value → Value → Sem Value) (r : R2) : Prop :=
  ∀ (pins : List (Addr × Obj)) (s : Shared) (σ : St) (H : Hp) (x y : V) (v u : Value) (Q : VK), Inv X pins σ H s → RelV x v → RelV y u → r x y H Q →
    wpAny (model X.prog X.w) X.A (f v u) (EP X pins σ Q) X.xe s
def UnR (X : Cx) (f : Value → Sem Value) (r : V → Hp → VK → Prop) : Prop :=
  ∀ (pins : List (Addr × Obj)) (s : Shared) (σ : St) (H : Hp) (x : V) (v : Value) (Q : VK), Inv X pins σ H s → RelV x v → r x H Q →
    wpAny (model X.prog X.w) X.A (f v) (EP X pins σ Q) X.xe s
def CallR (X : Cx) (f : Value) (r : List V → Hp → VK → Prop) : Prop :=
  ∀ (pins : List (Addr × Obj)) (s : Shared) (σ : St) (H : Hp) (xs : List V) (us : List Value) (Q : VK), Inv X pins σ H s → Vals xs us → r xs H Q →
    wpAny (model X.prog X.w) X.A (call f us) (EP X pins σ Q) X.xe s
def TruR (X : Cx) (r : V → Hp → (Bool → Hp → Prop) → Prop) : Prop :=
  ∀ (pins : List (Addr × Obj)) (s : Shared) (σ : St) (H : Hp) (x : V) (v : Value) (Q : Bool → Hp → Prop), Inv X pins σ H s → RelV x v → r x H Q →
    wpAny (model X.prog X.w) X.A (truthy v) (TP X pins σ Q) X.xe s
def tOp (r : R2) (ta tb : TE) : TE := fun σ H Q => ta σ H fun x H1 => tb σ H1 fun y H2 => r x y H2 Q
def tUn (r : V → Hp → VK → Prop) (ta : TE) : TE := fun σ H Q => ta σ H fun x H1 => r x H1 Q
def rI (C : Int → Int → Prop) (g : Int → Int → V) : R2 := fun x y H Q => ∃ i j, x = .int i ∧ y = .int j ∧ C i j ∧ Q (g i j) H
def rI0 (g : Int → Int → V) : R2 := fun x y H Q => ∃ i j, x = .int i ∧ y = .int j ∧ Q (g i j) H
def rU (g : Int → V) : V → Hp → VK → Prop := fun x H Q => ∃ i, x = .int i ∧ Q (g i) H
section
variable {X : Cx} {a b c : Expr} {ta tb tc : TE} {pos : Pos}
theorem binT (ha : PE X a ta) (hb : PE X b tb) {pins : List (Addr × Obj)} {s : Shared} {σ : St} {H : Hp} {R : V → V → Hp → Prop} (I : Inv X pins σ H s)
    (h : ta σ H fun x H1 => tb σ H1 fun y H2 => R x y H2) {Q : Value → Shared → Prop} {f : Value → Value → Sem Value}
    (hf : ∀ v u s2 x y H2, Inv X pins σ H2 s2 → RelV x v → RelV y u → R x y H2 → wpAny (model X.prog X.w) X.A (f v u) Q X.xe s2) :
    wpAny (model X.prog X.w) X.A (eval a X.env) (fun v s₁ => wpAny (model X.prog X.w) X.A (eval b X.env) (fun u s₂ => wpAny (model X.prog X.w) X.A (f v u) Q X.xe s₂) X.xe s₁) X.xe s := by
  refine thn (ha pins s σ H _ I h) fun v s1 ⟨x, H1, I1, r1, q1⟩ => ?_
  refine thn (hb pins s1 σ H1 _ I1 q1) fun u s2 ⟨y, H2, I2, r2, q2⟩ => ?_
  exact hf v u s2 x y H2 I2 r1 r2 q2
theorem pe_op {op : Operator} {r : R2} (ho : OpR X (binaryOp op) r) (ha : PE X a ta) (hb : PE X b tb) : PE X (.BinOp a op b pos) (tOp r ta tb) := by
  intro pins s σ H Q I h
  exact wpAny_BinOp (binT ha hb I h fun v u s2 x y H2 I2 rx ry q => ho pins s2 σ H2 x y v u Q I2 rx ry q)
theorem pe_un {op : UnaryOp} {r : V → Hp → VK → Prop} (ho : UnR X (unaryOp op) r) (ha : PE X a ta) : PE X (.UnaryOp op a pos) (tUn r ta) := by
  intro pins s σ H Q I h
  exact UnaryOp_ (thn (ha pins s σ H _ I h) fun v s1 ⟨x, H1, I1, r1, q1⟩ => ho pins s1 σ H1 x v Q I1 r1 q1)
theorem opI {f : Value → Value → Sem Value} {C : Int → Int → Prop} {g : Int → Int → Int}
    (rule : ∀ (i j : Int) (t u : Tok) (s : Shared) (Q : Value → Shared → Prop) (E : Value → Shared → Prop), C i j → Q (.int (g i j) s.toks) { s with toks := s.toks + 1 } → wpAny (model X.prog X.w) X.A (f (.int i t) (.int j u)) Q E s) :
    OpR X f (rI C fun i j => .int (g i j)) := by
  intro pins s σ H x y v u Q I rx ry h
  obtain ⟨i, j, rfl, rfl, hc, q⟩ := h
  obtain ⟨t, rfl⟩ := rx
  obtain ⟨t', rfl⟩ := ry
  exact rule i j t t' s _ _ hc ⟨.int (g i j), H, I.tok _, ⟨_, rfl⟩, q⟩
theorem opI0 {f : Value → Value → Sem Value} {g : Int → Int → Int}
    (rule : ∀ (i j : Int) (t u : Tok) (s : Shared) (Q : Value → Shared → Prop) (E : Value → Shared → Prop), Q (.int (g i j) s.toks) { s with toks := s.toks + 1 } → wpAny (model X.prog X.w) X.A (f (.int i t) (.int j u)) Q E s) :
    OpR X f (rI0 fun i j => .int (g i j)) := by
  intro pins s σ H x y v u Q I rx ry h
  obtain ⟨i, j, rfl, rfl, q⟩ := h
  obtain ⟨t, rfl⟩ := rx
  obtain ⟨t', rfl⟩ := ry
  exact rule i j t t' s _ _ ⟨.int (g i j), H, I.tok _, ⟨_, rfl⟩, q⟩
theorem opB0 {f : Value → Value → Sem Value} {g : Int → Int → Bool}
    (rule : ∀ (i j : Int) (t u : Tok) (s : Shared) (Q : Value → Shared → Prop) (E : Value → Shared → Prop), Q (.bool (g i j)) s → wpAny (model X.prog X.w) X.A (f (.int i t) (.int j u)) Q E s) :
    OpR X f (rI0 fun i j => .bl (g i j)) := by
  intro pins s σ H x y v u Q I rx ry h
  obtain ⟨i, j, rfl, rfl, q⟩ := h
  obtain ⟨t, rfl⟩ := rx
  obtain ⟨t', rfl⟩ := ry
  exact rule i j t t' s _ _ ⟨.bl (g i j), H, I, rfl, q⟩
def CDiv (i j : Int) : Prop := 0 < j ∧ j < 1073741824
def CDivN (i j : Int) : Prop := j ≠ 0 ∧ j.natAbs < 1073741824
def CPow (i j : Int) : Prop := 0 ≤ j ∧ j ≤ 1000000 ∧ i.natAbs < 2 ^ 64
def CMul (i j : Int) : Prop := (-(2 ^ 64) < i ∧ i < 2 ^ 64) ∨ (-(2 ^ 64) < j ∧ j < 2 ^ 64)
theorem CMul.ok {i j : Int} (h : CMul i j) : IntMulOk i j := by
  rcases h with ⟨h1, h2⟩ | ⟨h1, h2⟩
  · exact .of_left (intBits_le_64 h1 h2)
  · exact .of_right (intBits_le_64 h1 h2)
theorem op_add : OpR X (binaryOp .Add) (rI0 fun i j => .int (i + j)) := opI0 fun _ _ _ _ _ _ _ q => add_int q
theorem op_sub : OpR X (binaryOp .Sub) (rI0 fun i j => .int (i - j)) := opI0 fun _ _ _ _ _ _ _ q => sub_int q
theorem op_mul : OpR X (binaryOp .Mult) (rI CMul fun i j => .int (i * j)) := opI fun _ _ _ _ _ _ _ hc q => mul_int q hc.ok
theorem op_fdiv : OpR X (binaryOp .FloorDiv) (rI CDiv fun i j => .int (i / j)) := opI fun i j _ _ _ _ _ hc q => by
  have h1 : (0 : Int) < j := hc.1
  have h2 : j < 1073741824 := hc.2
  exact floordiv_int (by omega) (by rw [Int.fdiv_eq_ediv_of_nonneg i (by omega)]; exact q) (.inl (PyProof.noPylong_small (by omega)))
theorem op_mod : OpR X (binaryOp .Mod) (rI (fun _ j => 0 < j) fun i j => .int (i % j)) := opI fun i j _ _ _ _ _ hc q => by
  have h1 : (0 : Int) < j := hc
  exact mod_int' (by omega) (by rw [Int.fmod_eq_emod_of_nonneg i (by omega)]; exact q)
theorem unI {f : Value → Sem Value} {g : Int → Int}
    (rule : ∀ (i : Int) (t : Tok) (s : Shared) (Q : Value → Shared → Prop) (E : Value → Shared → Prop), Q (.int (g i) s.toks) { s with toks := s.toks + 1 } → wpAny (model X.prog X.w) X.A (f (.int i t)) Q E s) :
    UnR X f (rU fun i => .int (g i)) := by
  intro pins s σ H x v Q I rx h
  obtain ⟨i, rfl, q⟩ := h
  obtain ⟨t, rfl⟩ := rx
  exact rule i t s _ _ ⟨.int (g i), H, I.tok _, ⟨_, rfl⟩, q⟩
theorem un_neg : UnR X (unaryOp .USub) (rU fun i => .int (-i)) := unI fun _ _ _ _ _ q => neg_int q
end
def scal : V → V → Bool
  | .non, .non => true | .non, .int _ => true | .int _, .non => true | .non, .bl _ => true | .bl _, .non => true | .non, .str _ => true | .str _, .non => true
  | .int _, .int _ => true | .bl _, .bl _ => true | .str _, .str _ => true | .byt _, .byt _ => true
  | .int _, .str _ => true | .str _, .int _ => true | .bl _, .str _ => true | .str _, .bl _ => true
  | _, _ => false
def rEq : R2 := fun x y H Q => scal x y = true ∧ Q (.bl (decide (x = y))) H
def rNe : R2 := fun x y H Q => scal x y = true ∧ Q (.bl (!decide (x = y))) H
theorem dec_int {i j : Int} : decide (V.int i = V.int j) = (i == j) := by
  rw [Bool.eq_iff_iff]
  simp
theorem dec_bl {i j : Bool} : decide (V.bl i = V.bl j) = (i == j) := by
  rw [Bool.eq_iff_iff]
  simp
theorem dec_str {i j : Str} : decide (V.str i = V.str j) = (i == j) := by
  rw [Bool.eq_iff_iff]
  simp
theorem dec_byt {i j : Array UInt8} : decide (V.byt i = V.byt j) = (i.toList == j.toList) := by
  rw [Bool.eq_iff_iff]
  cases i
  cases j
  simp
section
variable {X : Cx} {a b c : Expr} {ta tb tc : TE} {pos : Pos}
theorem fin_bl {pins : List (Addr × Obj)} {σ : St} {H : Hp} {s : Shared} {Q : VK} {k k' : Bool} (I : Inv X pins σ H s) (q : Q (.bl k) H) (e : k = k') : EP X pins σ Q (.bool k') s := by
  subst e
  exact ⟨.bl k, H, I, rfl, q⟩
theorem op_eq : OpR X (compareOp .Eq) rEq := by
  intro pins s σ H x y v u Q I rx ry h
  obtain ⟨hs, q⟩ := h
  cases x with
  | non =>
    cases rx
    cases y with
    | non => cases ry; exact PySem.EqNone.eq_none_none (fin_bl I q (by simp))
    | bl j => cases ry; exact PySem.EqNone.eq_none_bool (fin_bl I q (by simp))
    | int j => obtain ⟨t', rfl⟩ := ry; exact PySem.EqNone.eq_none_int (fin_bl I q (by simp))
    | str j => obtain ⟨t', rfl⟩ := ry; exact PySem.EqNone.eq_none_str (fin_bl I q (by simp))
    | _ => exact absurd (show false = true from hs) Bool.false_ne_true
  | bl i =>
    cases rx
    cases y with
    | non => cases ry; exact PySem.EqNone.eq_bool_none (fin_bl I q (by simp))
    | bl j => cases ry; exact eq_bool (fin_bl I q dec_bl)
    | str j => obtain ⟨t', rfl⟩ := ry; exact PySem.EqMixed.eq_bool_str (fin_bl I q (by simp))
    | _ => exact absurd (show false = true from hs) Bool.false_ne_true
  | int i =>
    obtain ⟨t, rfl⟩ := rx
    cases y with
    | non => cases ry; exact PySem.EqNone.eq_int_none (fin_bl I q (by simp))
    | int j => obtain ⟨t', rfl⟩ := ry; exact eq_int (fin_bl I q dec_int)
    | str j => obtain ⟨t', rfl⟩ := ry; exact PySem.EqMixed.eq_int_str (fin_bl I q (by simp))
    | _ => exact absurd (show false = true from hs) Bool.false_ne_true
  | str i =>
    obtain ⟨t, rfl⟩ := rx
    cases y with
    | non => cases ry; exact PySem.EqNone.eq_str_none (fin_bl I q (by simp))
    | bl j => cases ry; exact PySem.EqMixed.eq_str_bool (fin_bl I q (by simp))
    | int j => obtain ⟨t', rfl⟩ := ry; exact PySem.EqMixed.eq_str_int (fin_bl I q (by simp))
    | str j => obtain ⟨t', rfl⟩ := ry; exact eq_str (fin_bl I q dec_str)
    | _ => exact absurd (show false = true from hs) Bool.false_ne_true
  | byt i =>
    obtain ⟨t, rfl⟩ := rx
    cases y with
    | byt j => obtain ⟨t', rfl⟩ := ry; exact PySem.W.eq_bytes (fin_bl I q dec_byt)
    | _ => exact absurd (show false = true from hs) Bool.false_ne_true
  | _ => cases y <;> exact absurd (show false = true from hs) Bool.false_ne_true
theorem op_ne : OpR X (compareOp .NotEq) rNe := by
  intro pins s σ H x y v u Q I rx ry h
  obtain ⟨hs, q⟩ := h
  cases x with
  | non =>
    cases rx
    cases y with
    | non => cases ry; exact PySem.EqNone.ne_none_none (fin_bl I q (by simp))
    | bl j => cases ry; exact PySem.EqNone.ne_none_bool (fin_bl I q (by simp))
    | int j => obtain ⟨t', rfl⟩ := ry; exact PySem.EqNone.ne_none_int (fin_bl I q (by simp))
    | str j => obtain ⟨t', rfl⟩ := ry; exact PySem.EqNone.ne_none_str (fin_bl I q (by simp))
    | _ => exact absurd (show false = true from hs) Bool.false_ne_true
  | bl i =>
    cases rx
    cases y with
    | non => cases ry; exact PySem.EqNone.ne_bool_none (fin_bl I q (by simp))
    | bl j => cases ry; exact ne_bool (fin_bl I q (congrArg not dec_bl))
    | str j => obtain ⟨t', rfl⟩ := ry; exact PySem.EqMixed.ne_bool_str (fin_bl I q (by simp))
    | _ => exact absurd (show false = true from hs) Bool.false_ne_true
  | int i =>
    obtain ⟨t, rfl⟩ := rx
    cases y with
    | non => cases ry; exact PySem.EqNone.ne_int_none (fin_bl I q (by simp))
    | int j => obtain ⟨t', rfl⟩ := ry; exact ne_int (fin_bl I q (congrArg not dec_int))
    | str j => obtain ⟨t', rfl⟩ := ry; exact PySem.EqMixed.ne_int_str (fin_bl I q (by simp))
    | _ => exact absurd (show false = true from hs) Bool.false_ne_true
  | str i =>
    obtain ⟨t, rfl⟩ := rx
    cases y with
    | non => cases ry; exact PySem.EqNone.ne_str_none (fin_bl I q (by simp))
    | bl j => cases ry; exact PySem.EqMixed.ne_str_bool (fin_bl I q (by simp))
    | int j => obtain ⟨t', rfl⟩ := ry; exact PySem.EqMixed.ne_str_int (fin_bl I q (by simp))
    | str j => obtain ⟨t', rfl⟩ := ry; exact ne_str (fin_bl I q (congrArg not dec_str))
    | _ => exact absurd (show false = true from hs) Bool.false_ne_true
  | byt i =>
    obtain ⟨t, rfl⟩ := rx
    cases y with
    | byt j => obtain ⟨t', rfl⟩ := ry; exact PySem.W.ne_bytes (fin_bl I q (congrArg not dec_byt))
    | _ => exact absurd (show false = true from hs) Bool.false_ne_true
  | _ => cases y <;> exact absurd (show false = true from hs) Bool.false_ne_true
theorem op_lt : OpR X (compareOp .Lt) (rI0 fun i j => .bl (decide (i < j))) := opB0 fun _ _ _ _ _ _ _ q => lt_int q
theorem op_le : OpR X (compareOp .LtE) (rI0 fun i j => .bl (decide (i ≤ j))) := opB0 fun _ _ _ _ _ _ _ q => le_int q
theorem op_gt : OpR X (compareOp .Gt) (rI0 fun i j => .bl (decide (j < i))) := opB0 fun _ _ _ _ _ _ _ q => gt_int q
theorem op_in_str : OpR X (compareOp .In) (fun x y H Q => ∃ i j, x = .str i ∧ y = .str j ∧ Q (.bl (!(Builtin.Str.occurrences j i 0 j.length 1).isEmpty)) H) := by
  intro pins s σ H x y v u Q I rx ry h
  obtain ⟨i, j, rfl, rfl, q⟩ := h
  obtain ⟨t, rfl⟩ := rx
  obtain ⟨t', rfl⟩ := ry
  exact in_str (fin_bl I q rfl)
def isObj : HO → Bool
  | .lst _ => true
  | .ins _ _ _ => true
  | _ => false
theorem OpR.or {f : Value → Value → Sem Value} {r r' : R2} (h : OpR X f r) (h' : OpR X f r') : OpR X f (fun x y H Q => r x y H Q ∨ r' x y H Q) := by
  intro pins s σ H x y v u Q I rx ry q
  rcases q with q | q
  · exact h pins s σ H x y v u Q I rx ry q
  · exact h' pins s σ H x y v u Q I rx ry q
theorem nomark (b : Expr) {op : CmpOp} (h : op ≠ .In := by decide) (h2 : op ≠ .NotIn := by decide) : behindInMarks op b = false := by
  have e1 : (op == CmpOp.In) = false := by cases op <;> first | rfl | exact absurd rfl h
  have e2 : (op == CmpOp.NotIn) = false := by cases op <;> first | rfl | exact absurd rfl h2
  cases b <;> simp [behindInMarks, e1, e2]
theorem pe_cmpR {op : CmpOp} {r : R2} (ho : OpR X (compareOp op) r) (ha : PE X a ta) (hb : PE X b tb) (hm : behindInMarks op b = false) : PE X (.Compare a [op] [b] pos) (tOp r ta tb) := by
  intro pins s σ H Q I h
  exact wpAny_Compare1 (binT ha hb I h fun v u s2 x y H2 I2 rx ry q => ho pins s2 σ H2 x y v u Q I2 rx ry q) hm
def tTest (t : TE) : TT := fun σ H Q => t σ H fun x H' => ∃ k, x = .bl k ∧ Q k H'
theorem pt_cmpR {op : CmpOp} {r : R2} (ho : OpR X (compareOp op) r) (ha : PE X a ta) (hb : PE X b tb) (hm : behindInMarks op b = false) : PT X (.Compare a [op] [b] pos) (tTest (tOp r ta tb)) := by
  intro pins s σ H Q I h
  refine wpAny_isTrue_Compare1 (thn (ha pins s σ H _ I h) fun v s1 ⟨x, H1, I1, r1, q1⟩ => thn (hb pins s1 σ H1 _ I1 q1) fun u s2 ⟨y, H2, I2, r2, q2⟩ =>
    thn (ho pins s2 σ H2 x y v u _ I2 r1 r2 q2) fun c s3 ⟨z, H3, I3, r3, k, e, q3⟩ => ?_) hm
  subst e
  cases r3
  exact wpAny_truthy_bool ⟨H3, I3, q3⟩
def tChain (r r' : R2) (ta tb tc : TE) : TE := fun σ H Q => ta σ H fun x H1 => tb σ H1 fun y H2 => r x y H2 fun z H3 => ∃ k, z = .bl k ∧
  (if k = true then tc σ H3 fun w' H4 => r' y w' H4 Q else Q (.bl false) H3)
theorem pe_chain {op op' : CmpOp} {r r' : R2} (ho : OpR X (compareOp op) r) (ho' : OpR X (compareOp op') r') (ha : PE X a ta) (hb : PE X b tb) (hc : PE X c tc)
    (hm : lastMarks [op, op'] [b, c] = false := by with_unfolding_all rfl) : PE X (.Compare a [op, op'] [b, c] pos) (tChain r r' ta tb tc) := by
  intro pins s σ H Q I h
  refine Compare_chain (thn (ha pins s σ H _ I h) fun v s1 ⟨x, H1, I1, r1, q1⟩ => chain_link (thn (hb pins s1 σ H1 _ I1 q1) fun u s2 ⟨y, H2, I2, r2, q2⟩ =>
    thn (ho pins s2 σ H2 x y v u _ I2 r1 r2 q2) fun d s3 ⟨z, H3, I3, r3, k, e, q3⟩ => ?_)) hm
  subst e
  cases r3
  refine wpAny_truthy_bool ?_
  cases k with
  | false => exact ite_ff ⟨.bl false, H3, I3, rfl, q3⟩
  | true => exact ite_tt (chain_last (thn (hc pins s3 σ H3 _ I3 q3) fun w' s4 ⟨z', H4, I4, r4, q4⟩ => ho' pins s4 σ H4 y z' u w' Q I4 r2 r4 q4))
theorem pt_chain {op op' : CmpOp} {r r' : R2} (ho : OpR X (compareOp op) r) (ho' : OpR X (compareOp op') r') (ha : PE X a ta) (hb : PE X b tb) (hc : PE X c tc)
    (hm : lastMarks [op, op'] [b, c] = false := by with_unfolding_all rfl) : PT X (.Compare a [op, op'] [b, c] pos) (tTest (tChain r r' ta tb tc)) := by
  intro pins s σ H Q I h
  refine isTrue_chain (thn (ha pins s σ H _ I h) fun v s1 ⟨x, H1, I1, r1, q1⟩ => test_link (thn (hb pins s1 σ H1 _ I1 q1) fun u s2 ⟨y, H2, I2, r2, q2⟩ =>
    thn (ho pins s2 σ H2 x y v u _ I2 r1 r2 q2) fun d s3 ⟨z, H3, I3, r3, k, e, q3⟩ => ?_)) hm
  subst e
  cases r3
  refine wpAny_truthy_bool ?_
  cases k with
  | false =>
    obtain ⟨k', e', q'⟩ := q3
    cases e'
    exact ite_ff ⟨H3, I3, q'⟩
  | true =>
    refine ite_tt (test_last (thn (hc pins s3 σ H3 _ I3 q3) fun w' s4 ⟨z', H4, I4, r4, q4⟩ => thn (ho' pins s4 σ H4 y z' u w' _ I4 r2 r4 q4) fun d' s5 ⟨z2, H5, I5, r5, k2, e2, q5⟩ => ?_))
    subst e2
    cases r5
    exact wpAny_truthy_bool ⟨H5, I5, q5⟩
def TruV (K : PySem.W.Frag) (x : V) (H : Hp) (k : Bool) : Prop :=
  match x with
  | .non => k = false
  | .bl b => k = b
  | .int i => k = (i != 0)
  | .str y => y.length ≤ sizeLine ∧ k = ((y.length : Int) != 0)
  | .byt y => y.size ≤ sizeLine ∧ k = ((y.size : Int) != 0)
  | .ref p => (∃ xs, SqL K H p xs ∧ k = !xs.isEmpty) ∨ (∃ xs, SqT K H p xs ∧ k = !xs.isEmpty) ∨ ∃ kvs, H p = some (.dK kvs) ∧ k = !kvs.isEmpty
  | _ => False
theorem line63 : (sizeLine : Nat) < 2 ^ 63 := by rw [sizeLine_eq]; decide
theorem op_add_str : OpR X (binaryOp .Add) (fun x y H Q => ∃ i j, x = .str i ∧ y = .str j ∧ i.length + j.length ≤ sizeLine ∧ Q (.str (i ++ j)) H) := by
  intro pins s σ H x y v u Q I rx ry h
  obtain ⟨i, j, rfl, rfl, hz, q⟩ := h
  obtain ⟨t, rfl⟩ := rx
  obtain ⟨t', rfl⟩ := ry
  exact add_str (fun t' tk => ⟨.str (i ++ j), H, I.tok _, ⟨_, rfl⟩, q⟩) hz
def PlainIxT (b : Expr) : Prop := ∀ o i, subscripted b false o i = operate [o, i] (getItem o i)
theorem vals1 {x : V} {us : List Value} (r : Vals [x] us) : ∃ u, us = [u] ∧ RelV x u := by
  cases r with
  | cons r1 r2 => cases r2; exact ⟨_, rfl, r1⟩
theorem vals2 {x y : V} {us : List Value} (r : Vals [x, y] us) : ∃ u w', us = [u, w'] ∧ RelV x u ∧ RelV y w' := by
  cases r with
  | cons r1 r2 =>
    cases r2 with
    | cons r3 r4 => cases r4; exact ⟨_, _, rfl, r1, r3⟩
theorem call_max2 (hc : X.calm = true) : CallR X (.builtin "max") (fun xs H Q => ∃ i j, xs = [.int i, .int j] ∧ Q (.int (if j > i then j else i)) H) := by
  intro pins s σ H xs us Q I r h
  obtain ⟨i, j, rfl, q⟩ := h
  obtain ⟨u, w', rfl, ⟨t, rfl⟩, ⟨t', rfl⟩⟩ := vals2 r
  refine max_two_ints (I.ok.hd hc) fun h' tk k => ⟨_, H, I.kept k, ?_, q⟩
  by_cases hj : j > i
  · rw [if_pos hj, if_pos hj]; exact ⟨_, rfl⟩
  · rw [if_neg hj, if_neg hj]; exact ⟨_, rfl⟩
theorem call_min2 (hc : X.calm = true) : CallR X (.builtin "min") (fun xs H Q => ∃ i j, xs = [.int i, .int j] ∧ Q (.int (if j < i then j else i)) H) := by
  intro pins s σ H xs us Q I r h
  obtain ⟨i, j, rfl, q⟩ := h
  obtain ⟨u, w', rfl, ⟨t, rfl⟩, ⟨t', rfl⟩⟩ := vals2 r
  refine min_two_ints (I.ok.hd hc) fun h' tk k => ⟨_, H, I.kept k, ?_, q⟩
  by_cases hj : j < i
  · rw [if_pos hj, if_pos hj]; exact ⟨_, rfl⟩
  · rw [if_neg hj, if_neg hj]; exact ⟨_, rfl⟩
def LenV (K : PySem.W.Frag) (x : V) (H : Hp) (n : Nat) : Prop :=
  match x with
  | .str y => y.length ≤ sizeLine ∧ n = y.length
  | .byt y => y.size ≤ sizeLine ∧ n = y.size
  | .ref p => (∃ xs, SqL K H p xs ∧ n = xs.length) ∨ ∃ xs, SqT K H p xs ∧ n = xs.length
  | _ => False
end
end L2
namespace L2
open PySem PySem.Spec PyProof.Rows
structure ObjM (h : Heap) (x dx C : Addr) (mA : Str → Option Value) : Prop where
  obj : h.get? x = some (PySem.W.instObj C dx)
  ns : h.Ns1 dx mA
  ne : dx ≠ x
theorem lookIn_ns {h : Heap} {dx : Addr} {mA : Str → Option Value} (n : h.Ns1 dx mA) : ∃ od, h.get? dx = some od ∧ ∀ name, PySem.W.lookIn name od = some (mA name) := by
  obtain ⟨o, es, ep, ho, hd, hk, _, hm⟩ := n
  refine ⟨o, ho, fun name => ?_⟩
  have e := hm name
  unfold nsFind findBy at e
  rw [← Array.find?_toList] at e
  unfold PySem.W.lookIn
  rw [hd]
  dsimp only
  split
  · rename_i y q
    rw [q] at e
    exact congrArg some e
  · rename_i q
    rw [q] at e
    have a : es.toList.any (·.refKey) = false := by
      rw [List.any_eq_false]
      intro y hy
      obtain ⟨z, t, hkey⟩ := hk y (Array.mem_toList_iff.mp hy)
      simp [DictEntry.refKey, hkey]
    have a' : ¬ es.toList.any (·.refKey) = true := by rw [a]; exact Bool.false_ne_true
    rw [if_neg a']
    exact congrArg some e
theorem ObjM.look {h : Heap} {x dx C : Addr} {mA : Str → Option Value} (I : ObjM h x dx C mA) : ∃ od, PySem.W.InstAt h x (PySem.W.instObj C dx) C (some od) ∧ ∀ name, PySem.W.lookIn name od = some (mA name) :=
  let ⟨od, ho, hl⟩ := lookIn_ns I.ns
  ⟨od, ⟨I.obj, rfl, rfl, ho⟩, hl⟩
section
variable {prog : Program} {w : World} {A : Around} {E : Value → Shared → Prop} {s : Shared} {K : PySem.W.Frag} {x dx C f : Addr} {mA : Str → Option Value} {name : Str} {v : Value}
end
def putF (f : Str) (v : V) : List (Str × V) → List (Str × V)
  | [] => [(f, v)]
  | (g, x) :: r => if g = f then (g, v) :: r else (g, x) :: putF f v r
theorem RelO.some_of {v : V} {o : Option Value} (r : RelO (some v) o) : ∃ u, o = some u ∧ RelV v u := by
  cases o with
  | none => exact (show False from r).elim
  | some u => exact ⟨u, rfl, r⟩
section
variable {P : Program} {w : World} {H H' : Hp} {h h' : Heap} {a C dx : Addr} {fs fs' : List (Str × V)}
theorem ins_get (hok : HOk P w H h) (e : H a = some (.ins C dx fs)) : ∃ mA, ObjM h a dx C mA ∧ (∀ f, RelO (fs.lookup f) (mA f)) ∧ PySem.Within mA (fs.map (·.1)) ∧ fs.length ≤ 1000 ∧ H dx = some (.own a) := by
  obtain ⟨d, z, ne, ob, mA, n, r, q⟩ := (show ObjOk P w H h a (.ins C dx fs) from hok a _ e)
  exact ⟨mA, ⟨ob, n, ne⟩, r, q, z, d⟩
end
structure Cls (K : PySem.W.Frag) (C : Addr) : Prop where
  pg : PySem.W.plainGet K C Str.empty = true
  hd : PySem.W.hasDictIn K C = true
  po : PySem.W.plainOver K C = true
  sa : PySem.W.findIn K (.ref C) "__setattr__" = some (some (.builtin "object.__setattr__"))
theorem Cls.get {K : PySem.W.Frag} {C : Addr} (c : Cls K C) (f : Str) : PySem.W.plainGet K C f = true := c.pg
def NoAttr (K : PySem.W.Frag) (C : Addr) (f : Str) : Prop := PySem.W.findIn K (.ref C) f = some none
structure Con (K : PySem.W.Frag) (C : Addr) (f : Str) (v : V) (u : Value) : Prop where
  at_ : PySem.W.findIn K (.ref C) f = some (some u)
  rel : RelV v u
  get : PySem.W.specialIn K u "__get__" = some none
  cp : PySem.W.copiedNames.contains f = false
structure Meth (K : PySem.W.Frag) (C : Addr) (m : Str) (f : Addr) : Prop where
  at_ : PySem.W.findIn K (.ref C) m = some (some (.ref f))
  fn : PySem.W.isFn K (.ref f) = true
  kp : PySem.W.keepIn K (.ref f) = true
section
variable {X : Cx} {pins : List (Addr × Obj)} {σ : St} {H : Hp} {s : Shared} {a C dx : Addr} {fs : List (Str × V)} {f : Str} {v : V} {A : Around} {E : Value → Shared → Prop}
theorem Inv.made (I : Inv X pins σ H s) : Inv X pins σ (upd (upd H s.heap.objs.size (.own (s.heap.objs.size + 1))) (s.heap.objs.size + 1) (.ins C s.heap.objs.size []))
    { s with heap := (s.heap.push PySem.W.emptyDict).push (PySem.W.instObj C s.heap.objs.size) } := by
  have e1 : (s.heap.push PySem.W.emptyDict).get? s.heap.objs.size = some PySem.W.emptyDict := Heap.get?_push_size s.heap rfl
  have e2 : ((s.heap.push PySem.W.emptyDict).push (PySem.W.instObj C s.heap.objs.size)).get? (s.heap.objs.size + 1) = some (PySem.W.instObj C s.heap.objs.size) := by
    have := Heap.get?_push_size (s.heap.push PySem.W.emptyDict) (o := PySem.W.instObj C s.heap.objs.size) rfl
    rwa [Heap.size_push] at this
  have e3 : (s.heap.push PySem.W.emptyDict).Ns s.heap.objs.size (fun _ => none) := ⟨PySem.W.emptyDict, #[], _, e1, rfl, (fun e he => absurd he (by simp)), fun _ => rfl⟩
  have I1 := I.laid (a := s.heap.objs.size) (o := .own (s.heap.objs.size + 1)) (h' := s.heap.push PySem.W.emptyDict) (t' := s.toks) (fun b u q => Heap.get?_push_of_some _ q) (Nat.le_refl _) ⟨_, e1⟩
  refine I1.laid (a := s.heap.objs.size + 1) (o := .ins C s.heap.objs.size []) (t' := s.toks) (fun b u q => Heap.get?_push_of_some _ q) (Nat.le_of_eq (Heap.size_push _ _)) ?_
  have ne : s.heap.objs.size ≠ s.heap.objs.size + 1 := Nat.ne_of_lt (Nat.lt_succ_self _)
  refine ⟨by rw [upd_ne ne, upd_same], Nat.zero_le _, ne, e2, fun _ => none, (Heap.Ns1.of_empty e3).at fun o q => Heap.get?_push_of_some _ q, fun _ => True.intro, fun y hy => absurd rfl hy⟩
end
def tFld (K : PySem.W.Frag) (ta : TE) (f : Str) : TE := fun σ H Q => ta σ H fun x H1 => ∃ a C dx fs v, x = .ref a ∧ H1 a = some (.ins C dx fs) ∧ Cls K C ∧ NoAttr K C f ∧ fs.lookup f = some v ∧ Q v H1
def tCon (K : PySem.W.Frag) (ta : TE) (f : Str) : TE := fun σ H Q => ta σ H fun x H1 => ∃ a C dx fs v u, x = .ref a ∧ H1 a = some (.ins C dx fs) ∧ Cls K C ∧ Con K C f v u ∧ fs.lookup f = none ∧ Q v H1
def sFld (K : PySem.W.Frag) (ta tv : TE) (f : Str) : TS := fun D σ H => tv σ H fun y H1 => ta σ H1 fun x H2 => ∃ a C dx fs, x = .ref a ∧ H2 a = some (.ins C dx fs) ∧ Cls K C ∧ NoAttr K C f ∧ fs.length < 1000 ∧
  D.nx σ (upd H2 a (.ins C dx (putF f y fs)))
def InOp (X : Cx) (op : Operator) (rd : V → V → Hp → VK → Prop) : Prop :=
  ∀ (pins : List (Addr × Obj)) (s : Shared) (σ : St) (H : Hp) (x y : V) (u v : Value) (Q : VK), Inv X pins σ H s → RelV x u → RelV y v → rd x y H Q → wpAny (model X.prog X.w) X.A (inplaceOp op u v) (EP X pins σ Q) X.xe s
def sFldAug (K : PySem.W.Frag) (ta tv : TE) (rd : V → V → Hp → VK → Prop) (f : Str) : TS := fun D σ H => ta σ H fun x H1 => ∃ a C dx fs v, x = .ref a ∧ H1 a = some (.ins C dx fs) ∧ Cls K C ∧ NoAttr K C f ∧ fs.lookup f = some v ∧
  tv σ H1 fun y H2 => rd v y H2 fun z H3 => ∃ dx' fs', H3 a = some (.ins C dx' fs') ∧ fs'.length < 1000 ∧ D.nx σ (upd H3 a (.ins C dx' (putF f z fs')))
section
variable {X : Cx} {o e value : Expr} {f : Str} {pos pos' tpos : Pos} {ta tv : TE}
def rAdd : V → V → Hp → VK → Prop := fun x y H Q => ∃ i j, x = .int i ∧ y = .int j ∧ Q (.int (i + j)) H
def rSub : V → V → Hp → VK → Prop := fun x y H Q => ∃ i j, x = .int i ∧ y = .int j ∧ Q (.int (i - j)) H
end
section
variable {X : Cx} {pins : List (Addr × Obj)} {σ : St} {H : Hp} {s : Shared} {A : Around} {E : Value → Shared → Prop} {Q : Value → Shared → Prop} {c : Value} {b : Bool}
inductive TyOf (K : PySem.W.Frag) (H : Hp) : V → Value → Prop where
  | non : TyOf K H .non (.type "NoneType")
  | bl (x : Bool) : TyOf K H (.bl x) (.type "bool")
  | int (i : Int) : TyOf K H (.int i) (.type "int")
  | str (x : Str) : TyOf K H (.str x) (.type "str")
  | flt (x : UInt64) : TyOf K H (.flt x) (.type "float")
  | lst {a : Addr} {xs : List V} (e : H a = some (.lst xs)) : TyOf K H (.ref a) (.type "list")
  | frz {a : Addr} {o : Obj} {xs : List V} (e : H a = some (.frz o (.lst xs))) : TyOf K H (.ref a) (.type "list")
  | tup {a : Addr} {xs : List V} (e : H a = some (.tup xs)) : TyOf K H (.ref a) (.type "tuple")
  | dK {a : Addr} {kvs : List (Key × V)} (e : H a = some (.dK kvs)) : TyOf K H (.ref a) (.type "dict")
  | dT {a : Addr} {kvs : List (List TKey × V)} (e : H a = some (.dT kvs)) : TyOf K H (.ref a) (.type "dict")
  | ins {a C dx : Addr} {fs : List (Str × V)} (e : H a = some (.ins C dx fs)) (cl : Cls K C) (ha : PySem.W.findIn K (.ref C) "__class__" = some (some (.builtin "object.__class__")))
      (hn : PySem.W.specialIn K (.builtin "object.__class__") "__get__" = some (some (.builtin "getset_descriptor.__get__"))) (htk : PySem.W.takesIn K (.builtin "object.__class__") = some true)
      (hm : PySem.W.mroIn K C (.type "object") = some true) : TyOf K H (.ref a) (.ref C)
theorem isinst_ok {x : V} {u t : Value} (I : Inv X pins σ H s) (rx : RelV x u) (ty : TyOf X.K H x t) (e : PySem.W.kitOne X.K t c = some b) (h : ∀ tk, Q (.bool b) { s with toks := tk }) :
    wpAny (model X.prog X.w) A (call (.builtin "isinstance") [u, c]) Q E s := by
  cases ty with
  | non => cases (show u = Value.none from rx); exact PySem.W.kia_one PySem.W.kitx_none I.kIn True.intro e (fun z => nomatch z) h
  | bl y => cases (show u = Value.bool y from rx); exact PySem.W.kia_one PySem.W.kitx_bool I.kIn True.intro e (fun z => nomatch z) h
  | int i => obtain ⟨t, q⟩ := (show ∃ t, u = Value.int i t from rx); cases q; exact PySem.W.kia_one PySem.W.kitx_int I.kIn True.intro e (fun z => nomatch z) h
  | str y => obtain ⟨t, q⟩ := (show ∃ t, u = Value.str y t from rx); cases q; exact PySem.W.kia_one PySem.W.kitx_str I.kIn True.intro e (fun z => nomatch z) h
  | flt y => obtain ⟨t, q⟩ := (show ∃ t, u = Value.float y t from rx); cases q; exact PySem.W.kia_one PySem.W.kitx_float I.kIn True.intro e (fun z => nomatch z) h
  | @lst a xs ea =>
    cases (show u = Value.ref a from rx)
    obtain ⟨_, _, n, _, h1⟩ := (show ObjOk X.prog X.w H s.heap a (.lst xs) from I.hok a _ ea)
    exact PySem.W.kia_one PySem.W.kitx_list I.kIn ⟨_, h1, rfl⟩ e (fun z => nomatch z) h
  | @frz a ob xs ea =>
    cases (show u = Value.ref a from rx)
    obtain ⟨_, _, _, n, _, h1⟩ := (show ObjOk X.prog X.w H s.heap a (.frz ob (.lst xs)) from I.hok a _ ea)
    exact PySem.W.kia_one PySem.W.kitx_list I.kIn ⟨_, h1, rfl⟩ e (fun z => nomatch z) h
  | @tup a xs ea =>
    cases (show u = Value.ref a from rx)
    obtain ⟨_, _, _, p⟩ := (show ObjOk X.prog X.w H s.heap a (.tup xs) from I.hok a _ ea)
    obtain ⟨o, h1, h2, _⟩ := p
    exact PySem.W.kia_one PySem.W.kitx_tuple I.kIn ⟨o, h1, h2⟩ e (fun z => nomatch z) h
  | @dK a kvs ea =>
    cases (show u = Value.ref a from rx)
    obtain ⟨_, _, vs, _, p⟩ := (show ObjOk X.prog X.w H s.heap a (.dK kvs) from I.hok a _ ea)
    obtain ⟨o, es, ep, h1, h2, _⟩ := p
    exact PySem.W.kia_one PySem.W.kitx_dict I.kIn ⟨o, h1, h2.1⟩ e (fun z => nomatch z) h
  | @dT a kvs ea =>
    cases (show u = Value.ref a from rx)
    obtain ⟨_, _, xs, _, o, es, ep, h1, h2, _⟩ := (show ObjOk X.prog X.w H s.heap a (.dT kvs) from I.hok a _ ea)
    exact PySem.W.kia_one PySem.W.kitx_dict I.kIn ⟨o, h1, h2.1⟩ e (fun z => nomatch z) h
  | @ins a C dx fs ea cl ha hn htk hm =>
    cases (show u = Value.ref a from rx)
    obtain ⟨mA, O, _⟩ := ins_get I.hok ea
    obtain ⟨od, J, _⟩ := O.look
    exact PySem.W.kia_one (PySem.W.kitx_own (cl.get _) cl.hd ha hn htk hm) I.kIn J e (fun z => nomatch z) h
end
end L2
namespace L2
open PySem PySem.Spec PyProof.Rows
structure Room (k : Nat) (A : Around) : Prop where
  hd : A.handled = none
  dp : A.depth + 3 * k + 5 < recursionLimit
  un : A.units + 16 * k + 200 < cLine
theorem Room.mono {j k : Nat} {A : Around} (r : Room k A) (h : j ≤ k) : Room j A := ⟨r.hd, by have := r.dp; omega, by have := r.un; omega⟩
theorem Room.deeper {k : Nat} {A : Around} (r : Room (k + 1) A) (env : Env) : Room k (A.deeper env) :=
  ⟨r.hd, by have := r.dp; show A.depth + 1 + 3 * k + 5 < _; omega, by have := r.un; show A.units + 3 + 16 * k + 200 < _; omega⟩
theorem Room.in1 {k : Nat} {A : Around} (r : Room (k + 1) A) : Room k A.in1 :=
  ⟨r.hd, by have := r.dp; show A.depth + 3 * k + 5 < _; omega, by have := r.un; show A.units + 1 + 16 * k + 200 < _; omega⟩
theorem Room.depth {k : Nat} {A : Around} (r : Room k A) : A.depth < recursionLimit := by have := r.dp; omega
theorem Room.units {k : Nat} {A : Around} (r : Room k A) : A.units + 64 < cLine := by have := r.un; omega
def tNil : TA := fun _ H Q => Q [] H
def tCons (ta : TE) (tr : TA) : TA := fun σ H Q => ta σ H fun x H1 => tr σ H1 fun xs H2 => Q (x :: xs) H2
section
variable {X : Cx} {e : Expr} {es : List Expr} {te : TE} {t : TA} {pos : Pos}
theorem pa_nil : PA X [] tNil := fun _ _ _ _ H Q I h => Calls.spliced_nil ⟨[], H, I, .nil, h⟩
theorem pa_cons (ha : PE X e te) (hr : PA X es t) (hs : starEach (e :: es) X.env = (false, eval e X.env) :: starEach es X.env := by rfl) : PA X (e :: es) (tCons te t) := by
  intro pos pins s σ H Q I h
  rw [hs]
  show wpAny _ _ (spliced ((false, eval e X.env) :: backTo pos (starEach es X.env))) _ _ s
  refine Calls.spliced_cons (thn (ha pins s σ H _ I h) fun u s1 ⟨x, H1, I1, r1, q1⟩ => ?_)
  exact thn (hr pos pins s1 σ H1 _ I1 q1) fun us s2 ⟨xs, H2, I2, r2, q2⟩ => ⟨x :: xs, H2, I2, .cons r1 r2, q2⟩
def tTup (t : TA) : TE := fun σ H Q => t σ H fun xs H1 => xs.length ≤ sizeLine ∧ ∀ p, H1 p = none → Q (.ref p) (upd H1 p (.tup xs))
def tLst (t : TA) : TE := fun σ H Q => t σ H fun xs H1 => xs.length ≤ sizeLine ∧ ∀ p, H1 p = none → Q (.ref p) (upd H1 p (.lst xs))
theorem pe_tup {x1} (h : PA X es t) : PE X (.Tuple es x1 pos) (tTup t) := by
  intro pins s σ H Q I hq
  refine wpAny_Tuple_spliced (thn (h pos pins s σ H _ I hq) fun us s1 ⟨xs, H1, I1, r, z, q⟩ => ⟨by rw [← r.length]; exact z, ?_⟩)
  have hf : H1 s1.heap.objs.size = none := I1.hok.fresh (Nat.le_refl _)
  refine ⟨.ref s1.heap.objs.size, upd H1 s1.heap.objs.size (.tup xs), I1.laid (t' := s1.toks) (fun b u e => Heap.get?_push_of_some _ e) (Nat.le_refl _) ?_, rfl, q _ hf⟩
  exact ⟨z, us, r, ⟨_, Heap.get?_push_size _ rfl, rfl, _, rfl⟩⟩
theorem pe_lst (h : PA X es t) : PE X (.List es pos) (tLst t) := by
  intro pins s σ H Q I hq
  refine wpAny_List_spliced (thn (h pos pins s σ H _ I hq) fun us s1 ⟨xs, H1, I1, r, z, q⟩ => ⟨by rw [← r.length]; exact z, ?_⟩)
  have hf : H1 s1.heap.objs.size = none := I1.hok.fresh (Nat.le_refl _)
  refine ⟨.ref s1.heap.objs.size, upd H1 s1.heap.objs.size (.lst xs), I1.laid (t' := s1.toks) (fun b u e => Heap.get?_push_of_some _ e) (Nat.le_refl _) ?_, rfl, q _ hf⟩
  exact ⟨z, us, 0, r, Heap.get?_push_size _ rfl⟩
end
abbrev Sp := List V → Hp → VK → XK → Prop
abbrev CXT := List Env → Hp → Shared → XK → Value → Shared → Prop
structure Env0 (P : Program) (w : World) (K : PySem.W.Frag) (mg : Str → Option Value) (base : Heap) (A : Around) (outer : List Env) (s : Shared) (H : Hp) : Prop where
  frames : A.frames = some outer
  mod : Mod K mg base
  bs : ∀ b o, base.get? b = some o → s.heap.get? b = some o ∧ H b = none
  bsz : base.objs.size ≤ s.heap.objs.size
  funs : s.heap.FunFrames base outer
  frf : ∀ b ∈ frs outer, H b = none
  hok : HOk P w H s.heap
  bare : AllBare s.gens
def CE (outer : List Env) (P : Program) (w : World) (H : Hp) (s : Shared) (Q : VK) (u : Value) (s' : Shared) : Prop :=
  ∃ v H', s'.os = s.os ∧ AllBare s'.gens ∧ Un (frs outer) [] H H' s.heap s'.heap ∧ HOk P w H' s'.heap ∧ RelV v u ∧ Q v H'
def CR (CX : CXT) (outer : List Env) (P : Program) (w : World) (H : Hp) (s : Shared) (Q : VK) (E : XK) (r : Result) (s' : Shared) : Prop :=
  match r with
  | .ok (.ret u) => CE outer P w H s Q u s'
  | .ok _ => False
  | .error e => CX outer H s E e s'
structure FnOk (P : Program) (w : World) (K : PySem.W.Frag) (mg : Str → Option Value) (base : Heap) (CX : CXT) (k : Nat) (f : Addr) (fd : FuncData) (ps : List Str) (sp : Sp) : Prop where
  len : ∀ vs H Q E, sp vs H Q E → vs.length = ps.length
  run : ∀ (A : Around) (outer : List Env) (s : Shared) (H : Hp) (args : Args) (us : List Value) (vs : List V) (Q : VK) (E : XK), Room k A → Env0 P w K mg base A outer s H → BindsTo s fd args (ps.zip us) → Vals vs us → sp vs H Q E →
    codeAny (model P w) A (.call (.ref f) args) (CR CX outer P w H s Q E) s
theorem FnOk.mono {P : Program} {w : World} {K : PySem.W.Frag} {mg : Str → Option Value} {base : Heap} {CX : CXT} {j k : Nat} {f : Addr} {fd : FuncData} {ps : List Str} {sp : Sp} (F : FnOk P w K mg base CX j f fd ps sp) (h : j ≤ k) :
    FnOk P w K mg base CX k f fd ps sp := ⟨F.len, fun A outer s H args us vs Q E hr => F.run A outer s H args us vs Q E (hr.mono h)⟩
theorem FnOk.imp {P : Program} {w : World} {K : PySem.W.Frag} {mg : Str → Option Value} {base : Heap} {CX : CXT} {k : Nat} {f : Addr} {fd : FuncData} {ps : List Str} {sp sp' : Sp} (F : FnOk P w K mg base CX k f fd ps sp)
    (h : ∀ vs H Q E, sp' vs H Q E → sp vs H Q E) : FnOk P w K mg base CX k f fd ps sp' :=
  ⟨fun vs H Q E q => F.len vs H Q E (h _ _ _ _ q), fun A outer s H args us vs Q E hr he hb hv hs => F.run A outer s H args us vs Q E hr he hb hv (h _ _ _ _ hs)⟩
theorem Env0.in1 {P : Program} {w : World} {K : PySem.W.Frag} {mg : Str → Option Value} {base : Heap} {A : Around} {outer : List Env} {s : Shared} {H : Hp} (e : Env0 P w K mg base A outer s H) :
    Env0 P w K mg base A.in1 outer s H := ⟨e.frames, e.mod, e.bs, e.bsz, e.funs, e.frf, e.hok, e.bare⟩
section
variable {X : Cx} {pins : List (Addr × Obj)} {σ : St} {H : Hp} {s s' : Shared}
theorem Inv.env0 (I : Inv X pins σ H s) : Env0 X.prog X.w X.K X.mg X.base X.A X.stack s H :=
  ⟨I.ok.frames, I.ok.mod, I.bs, Nat.le_trans I.ok.bsz I.sz, I.stack, I.stkFree, I.hok, I.bare⟩
theorem Inv.after {Q : VK} {u : Value} (I : Inv X pins σ H s) (h : CE X.stack X.prog X.w H s Q u s') : EP X pins σ Q u s' := by
  obtain ⟨v, H', os, bare, un, hok, r, q⟩ := h
  obtain ⟨hh, g, d, t, os'⟩ := s'
  obtain rfl : os' = s.os := os
  exact ⟨v, H', I.call (h' := hh) (g' := g) (d' := d) (t' := t) (ch := []) un hok bare (fun b z => absurd z (by simp)), r, q⟩
end
def tCall (sp : Sp) (dvs : List V) (E : XK) (t : TA) : TE := fun σ H Q => t σ H fun vs H1 => sp (vs ++ dvs) H1 Q E
def tMeth (C : Addr) (m : Str) (sp : Sp) (dvs : List V) (E : XK) (ta : TE) (t : TA) : TE := fun σ H Q => ta σ H fun x H1 => ∃ a dx fs, x = .ref a ∧ H1 a = some (.ins C dx fs) ∧ fs.lookup m = none ∧
  t σ H1 fun vs H2 => sp (x :: (vs ++ dvs)) H2 Q E
def tMake (C : Addr) (sp : Sp) (dvs : List V) (E : XK) (t : TA) : TE := fun σ H Q => t σ H fun vs H1 => ∀ x dx, H1 x = none → H1 dx = none → dx ≠ x →
  sp (.ref x :: (vs ++ dvs)) (upd (upd H1 dx (.own x)) x (.ins C dx [])) (fun v H2 => v = .non ∧ Q (.ref x) H2) E
def Binds (K : PySem.W.Frag) (fd : FuncData) (ps : List Str) (ds : List Value) : Prop :=
  ∀ (s : Shared) (us : List Value), K.In s.heap → (us ++ ds).length = ps.length → BindsTo s fd ⟨us, []⟩ (ps.zip (us ++ ds))
theorem Binds.all {K : PySem.W.Frag} {fd : FuncData} {ps : List Str} (h : ∀ us : List Value, us.length = ps.length → bindArgs fd ⟨us, []⟩ = pure (ps.zip us)) : Binds K fd ps [] := fun s us _ hl => by
  rw [List.append_nil] at hl ⊢
  exact .of_eq (h us hl)
def Passes (CX : CXT) (X : Cx) (E : XK) : Prop := ∀ (pins : List (Addr × Obj)) (σ : St) (H : Hp) (s : Shared) (e : Value) (s' : Shared), Inv X pins σ H s → CX X.stack H s E e s' → X.xe e s'
section
variable {X : Cx} {CX : CXT} {k : Nat} {f C : Addr} {fd : FuncData} {ps : List Str} {sp : Sp} {dvs : List V} {ds : List Value} {E : XK} {x m : Str} {p pos apos : Pos} {e o : Expr} {es : List Expr} {ta : TE} {t : TA}
theorem run_fn {pins : List (Addr × Obj)} {σ : St} {H : Hp} {s : Shared} {Q : VK} {us : List Value} {vs : List V} (F : FnOk X.prog X.w X.K X.mg X.base CX k f fd ps sp) (hr : Room k X.A) (hb : Binds X.K fd ps ds) (hd : Vals dvs ds) (hx : Passes CX X E)
    (I : Inv X pins σ H s) (r : Vals vs us) (h : sp (vs ++ dvs) H Q E) : wpAny (model X.prog X.w) X.A (call (.ref f) us) (EP X pins σ Q) X.xe s := by
  have r2 : Vals (vs ++ dvs) (us ++ ds) := r.append hd
  have hl : (us ++ ds).length = ps.length := by rw [← r2.length]; exact F.len _ _ _ _ h
  refine wpAny_call (codeAny_mono (F.run X.A X.stack s H ⟨us, []⟩ (us ++ ds) (vs ++ dvs) Q E hr I.env0 (hb s us I.kIn hl) r2 h) fun r s' hq => ?_)
  cases r with
  | error e => exact hx pins σ H s e s' I hq
  | ok fl =>
    cases fl with
    | ret u => exact I.after hq
    | next => exact False.elim hq
    | brk => exact False.elim hq
    | cont => exact False.elim hq
theorem pe_call (F : FnOk X.prog X.w X.K X.mg X.base CX k f fd ps sp) (hr : Room k X.A) (hg : Gl X x) (hm : X.mg x = some (.ref f)) (hk : PySem.W.keepIn X.K (.ref f) = true) (hb : Binds X.K fd ps ds) (hd : Vals dvs ds) (hx : Passes CX X E)
    (ha : PA X (e :: es) t) (hdb : (x == ("__debug__" : Str)) = false := by decide) (he : starEach (e :: es) X.env = (false, eval e X.env) :: starEach es X.env := by rfl) (hpl : (backTo pos (starEach es X.env)).any (·.1) = false := by rfl) :
    PE X (.Call (.Name x p) (e :: es) [] pos) (tCall sp dvs E t) := by
  intro pins s σ H Q I h
  refine wpAny_Call_Name_kw (ld_glob I hg hm ?_ hdb)
  refine PySem.W.callWith_K (h₀ := X.base) I.ok.mod.kin hk (thn (ha pos pins s σ H _ I h) fun us s1 ⟨vs, H1, I1, r, q⟩ => ⟨I1.kIn, ?_⟩) he hpl
  exact run_fn F hr hb hd hx I1 r q
structure Mk (K : PySem.W.Frag) (C f : Addr) : Prop where
  makes : PySem.W.makesIn K C = true
  init : PySem.W.findIn K (.ref C) "__init__" = some (some (.ref f))
  fn : PySem.W.isFn K (.ref f) = true
  kp : PySem.W.keepIn K (.ref C) = true
end
def PK (X : Cx) (kws : List Keyword) (t : TA) : Prop :=
  ∀ (pos : Pos) (pins : List (Addr × Obj)) (s : Shared) (σ : St) (H : Hp) (Q : List V → Hp → Prop), Inv X pins σ H s → t σ H Q → wpAny (model X.prog X.w) X.A (evalAll ((backToKw pos (keywordEach kws X.env)).map (·.2))) (AP X pins σ Q) X.xe s
section
variable {X : Cx} {CX : CXT} {k : Nat} {f C : Addr} {fd : FuncData} {ps ks : List Str} {sp : Sp} {E : XK} {x m : Str} {p pos apos kpos : Pos} {e o : Expr} {es : List Expr} {kws : List Keyword} {te ta : TE} {t tk : TA} {nm : Option Str}
structure KBinds (K : PySem.W.Frag) (fd : FuncData) (ps ks : List Str) (g : List Value → List Value → List Value) (gV : List V → List V → List V) : Prop where
  to : ∀ (s : Shared) (us ws : List Value), K.In s.heap → (g us ws).length = ps.length → BindsTo s fd ⟨us, ks.zip ws⟩ (ps.zip (g us ws))
  rel : ∀ {vs : List V} {us : List Value} {zs : List V} {ws : List Value}, Vals vs us → Vals zs ws → Vals (gV vs zs) (g us ws)
def tCallK (sp : Sp) (gV : List V → List V → List V) (E : XK) (t tk : TA) : TE := fun σ H Q => t σ H fun vs H1 => tk σ H1 fun zs H2 => sp (gV vs zs) H2 Q E
variable {g : List Value → List Value → List Value} {gV : List V → List V → List V}
end
structure FnScope (N P : List Str) (sc : Scope) : Prop where
  kind : sc.kind = .function
  co : sc.isCoroutine = false
  gen : sc.isGenerator = false
  nd : N.Nodup
  pre : N.take P.length = P
  par : ∀ x ∈ P, sc.names.lookup x = some .local ∨ sc.names.lookup x = some .cell
  nofree : ∀ y ∈ sc.names, y.2 ≠ .free
theorem bindL_out {kindOf : Str → Option NameKind} {x : Str} : ∀ {binds : List (Str × Value)} {m : Str → Option Value}, (∀ v, (x, v) ∉ binds) → bindL kindOf binds m x = m x
  | [], _, _ => rfl
  | (n, v) :: r, m, h => by
    unfold bindL
    rw [bindL_out fun w hw => h w (List.mem_cons_of_mem _ hw)]
    split
    · have : x ≠ n := by rintro rfl; exact h v List.mem_cons_self
      simp [this]
    · rfl
theorem bindC_out {kindOf : Str → Option NameKind} {x : Str} : ∀ {binds : List (Str × Value)} {m : Str → Option Value}, (∀ v, (x, v) ∉ binds) → bindC kindOf binds m x = m x
  | [], _, _ => rfl
  | (n, v) :: r, m, h => by
    unfold bindC
    rw [bindC_out fun w hw => h w (List.mem_cons_of_mem _ hw)]
    split
    · rfl
    · have : x ≠ n := by rintro rfl; exact h v List.mem_cons_self
      simp [this]
theorem bindL_get {kindOf : Str → Option NameKind} {x : Str} {v : Value} : ∀ {P : List Str} {vs : List Value} {i : Nat} {m : Str → Option Value}, P.Nodup → P[i]? = some x → vs[i]? = some v → kindOf x = some .local →
    bindL kindOf (P.zip vs) m x = some v
  | [], _, _, _, _, h, _, _ => by simp at h
  | _ :: _, [], _, _, _, _, h, _ => by simp at h
  | p :: P, w :: vs, 0, m, nd, h1, h2, hk => by
    simp at h1 h2; subst h1; subst h2
    show bindL kindOf ((p, w) :: P.zip vs) m p = _
    unfold bindL
    rw [bindL_out fun v hv => (List.nodup_cons.mp nd).1 (List.of_mem_zip hv).1, if_pos hk]
    simp
  | p :: P, w :: vs, i + 1, m, nd, h1, h2, hk => by
    show bindL kindOf ((p, w) :: P.zip vs) m x = _
    unfold bindL
    exact bindL_get (i := i) (List.nodup_cons.mp nd).2 (by simpa using h1) (by simpa using h2) hk
theorem bindC_get {kindOf : Str → Option NameKind} {x : Str} {v : Value} : ∀ {P : List Str} {vs : List Value} {i : Nat} {m : Str → Option Value}, P.Nodup → P[i]? = some x → vs[i]? = some v → kindOf x ≠ some .local →
    bindC kindOf (P.zip vs) m x = some v
  | [], _, _, _, _, h, _, _ => by simp at h
  | _ :: _, [], _, _, _, _, h, _ => by simp at h
  | p :: P, w :: vs, 0, m, nd, h1, h2, hk => by
    simp at h1 h2; subst h1; subst h2
    show bindC kindOf ((p, w) :: P.zip vs) m p = _
    unfold bindC
    rw [bindC_out fun v hv => (List.nodup_cons.mp nd).1 (List.of_mem_zip hv).1, if_neg hk]
    simp
  | p :: P, w :: vs, i + 1, m, nd, h1, h2, hk => by
    show bindC kindOf ((p, w) :: P.zip vs) m x = _
    unfold bindC
    exact bindC_get (i := i) (List.nodup_cons.mp nd).2 (by simpa using h1) (by simpa using h2) hk
def start (N : List Str) (vs : List V) : St := vs.map some ++ List.replicate (N.length - vs.length) none
def cxOf (CX : CXT) (P : Program) (w : World) (K : PySem.W.Frag) (mg : Str → Option Value) (base : Heap) (N : List Str) (qual : Str) (scope : Scope) (f : Addr) (cd : Value) (A : Around) (outer : List Env) (s : Shared) (H : Hp) (E : XK) : Cx where
  prog := P
  w := w
  K := K
  mg := mg
  base := base
  A := A.deeper (envOfC qual scope s.heap.objs.size f cd)
  N := N
  s₀ := s
  H₀ := H
  env := envOfC qual scope s.heap.objs.size f cd
  outer := outer
  stack := envOfC qual scope s.heap.objs.size f cd :: outer
  ex := []
  calm := true
  fn := fun _ => true
  pn := []
  xe := fun e s' => wpAny (model P w) (A.deeper (envOfC qual scope s.heap.objs.size f cd)) (leaving (envOfC qual scope s.heap.objs.size f cd) e) (fun _ s'' => CX outer H s E e s'') (fun e' s'' => CX outer H s E e' s'') s'
theorem cell_has {sc : Scope} {n : Nat} {x : Str} (h : sc.names.lookup x = some .cell) : ∃ c, (cellsFrom n sc.names []).lookup x = some c := by
  have q := PySem.W.cellsFrom_some sc.names n [] (.inl h)
  exact Option.isSome_iff_exists.mp q
theorem inv_start {CX : CXT} {P : Program} {w : World} {K : PySem.W.Frag} {mg : Str → Option Value} {base : Heap} {N ps : List Str} {qual : Str} {scope : Scope} {f : Addr} {cd : Value} {A : Around} {outer : List Env} {s s1 : Shared} {H : Hp} {E : XK} {us : List Value} {vs : List V}
    (S : FnScope N ps scope) (hd : A.handled = none) (e0 : Env0 P w K mg base A outer s H) (hl : vs.length = ps.length) (r : Vals vs us)
    (x : InCallC s s.heap.objs.size (bindL (envOfC qual scope s.heap.objs.size f cd).kindOf (ps.zip us) fun _ => none) (cellsFrom (s.heap.objs.size + 1) scope.names []) (bindC (envOfC qual scope s.heap.objs.size f cd).kindOf (ps.zip us) fun _ => none) s1) :
    Inv (cxOf CX P w K mg base N qual scope f cd A outer s H E) [] (start N vs) H s1 := by
  have hpl : ps.length ≤ N.length := by have := congrArg List.length S.pre; rw [List.length_take] at this; omega
  obtain ⟨h1, tk, rfl, hk⟩ := x.done
  have noA : ∀ b : Addr, b ∉ (cxOf CX P w K mg base N qual scope f cd A outer s H E).ex := fun b z => absurd (show b ∈ ([] : List Addr) from z) (by simp)
  refine ⟨⟨e0.mod, S.kind, rfl, rfl, Nat.le_refl _, fun y z c h1 h2 => ?_, fun y hy => ?_, fun y c _ h => ?_, fun _ => hd, Around.frames_deeper e0.frames, .inr ⟨rfl, rfl⟩, fun b z => absurd z (noA b), e0.bs, e0.bsz, fun b _ _ => noA b, fun b z => absurd z (noA b), e0.funs, e0.frf⟩,
    rfl, e0.bare, Un.kept hk, ⟨_, x.toInCall.ns, fun i y v h1 h2 h3 => ?_⟩, fun y c h => ⟨_, x.cell y c h⟩, e0.hok.fresh (Nat.le_refl _), fun y c h => ?_, fun p hp => absurd (show p ∈ ([] : List (Addr × Obj)) from hp) (by simp), e0.hok.kept hk, ?_⟩
  · exact name_of_addr x.apart (PySem.mem_of_lookup h1) (PySem.mem_of_lookup h2)
  · have hy : scope.names.lookup y = some .cell ∨ scope.names.lookup y = some .free := hy
    rcases hy with hy | hy
    · exact cell_has hy
    · exact absurd rfl (S.nofree _ (PySem.mem_of_lookup hy))
  · exact Nat.le_of_lt (x.above y c (PySem.mem_of_lookup h))
  · have hi : i < vs.length := by
      unfold start at h2
      by_cases hi : i < vs.length
      · exact hi
      · rw [List.getElem?_append_right (by simpa using hi)] at h2
        rw [List.getElem?_replicate] at h2
        split at h2 <;> cases h2
    have ha : vs[i]? = some v := by
      unfold start at h2
      rw [List.getElem?_append_left (by simpa using hi), List.getElem?_map] at h2
      cases e : vs[i]? with
      | none => rw [e] at h2; cases h2
      | some a => rw [e] at h2; cases h2; rfl
    obtain ⟨u, hu, rv⟩ := r.get ha
    have hp : ps[i]? = some y := by
      rw [← S.pre, List.getElem?_take_of_lt (by omega)]; exact h1
    have ndP : ps.Nodup := by rw [← S.pre]; exact S.nd.sublist (List.take_sublist _ _)
    refine ⟨u, rv, ?_⟩
    rcases S.par y (List.mem_of_getElem? hp) with k | k
    · exact .inl ⟨k, bindL_get ndP hp hu k⟩
    · obtain ⟨c, e⟩ := cell_has (n := s.heap.objs.size + 1) k
      refine .inr ⟨.inl k, c, e, ?_⟩
      have q := x.cell y c e
      rw [bindC_get ndP hp hu (by show scope.names.lookup y ≠ _; rw [k]; decide)] at q
      exact q
  · exact e0.hok.fresh (Nat.le_of_lt (x.above y c (PySem.mem_of_lookup h)))
  · unfold start
    show _ = N.length
    rw [List.length_append, List.length_map, List.length_replicate]
    omega
theorem fn_of {CX : CXT} {P : Program} {w : World} {K : PySem.W.Frag} {mg : Str → Option Value} {base : Heap} {k : Nat} {f : Addr} {name qual : Str} {params : Arguments} {body : List Stmt} {scope : Scope} {dV kV doc pm cdv ct oc : Value} {an od : Option Addr}
    {osl : Array (Option Value)} {N ps : List Str} {sp : Sp} (lk : K.lookup f = some ⟨oc, od, .func (PySem.W.fnOf name qual params body scope dV kV doc pm an cdv ct), osl⟩) (hcd : PySem.W.codeIn K cdv qual = true) (S : FnScope N ps scope)
    (len : ∀ vs H Q E, sp vs H Q E → vs.length = ps.length)
    (hbody : ∀ (A : Around) (outer : List Env) (s : Shared) (H : Hp) (vs : List V) (Q : VK) (E : XK), Room k (A.deeper (envOfC qual scope s.heap.objs.size f cdv)) → sp vs H Q E →
      ∃ t, PSs (cxOf CX P w K mg base N qual scope f cdv A outer s H E) body t ∧ t { nx := fun _ H' => Q .non H', rt := Q } (start N vs) H) :
    FnOk P w K mg base CX (k + 1) f (PySem.W.fnOf name qual params body scope dV kV doc pm an cdv ct) ps sp := by
  refine ⟨len, fun A outer s H args us vs Q E hr e0 hb r hsp => ?_⟩
  have hl := len _ _ _ _ hsp
  have KX : K.In s.heap := e0.mod.kin.keeps fun b o e => (e0.bs b o e).1
  have lim : s.heap.NoLimit := e0.mod.nolimit.keeps fun b o e => (e0.bs b o e).1
  have hkind : ∀ y ∈ ps.zip us, scope.names.lookup y.1 = some .local ∨ (scope.names.lookup y.1 = some .cell ∧ ((cellsFrom (s.heap.objs.size + 1) scope.names []).lookup y.1).isSome = true) := fun ⟨n, v⟩ hy => by
    rcases S.par n (List.of_mem_zip hy).1 with q | q
    · exact .inl q
    · exact .inr ⟨q, PySem.W.cellsFrom_some _ _ _ (.inl q)⟩
  refine codeAny_call_function hr.depth (KX _ _ lk) rfl S.co S.gen rfl (PySem.W.codeRec_of KX hcd) (hb _ _ _ _ ?_)
  refine wpAny_newFunctionEnv_cells S.kind hkind fun env he s1 x => ?_
  subst he
  refine ⟨lim.keeps x.toInCall.keep, codeAny_func ?_⟩
  obtain ⟨t, ht, hq⟩ := hbody A outer s H vs Q E (hr.deeper _) hsp
  have I : Inv (cxOf CX P w K mg base N qual scope f cdv A outer s H E) [] (start N vs) H s1 := inv_start S hr.hd e0 hl r x
  refine wpAny_mono (ht [] s1 (start N vs) H _ I hq) (fun fl s' hs => ?_) fun e s' hs => hs
  have fin : ∀ {σ' : St} {H' : Hp} {v : V} {u : Value}, Inv (cxOf CX P w K mg base N qual scope f cdv A outer s H E) [] σ' H' s' → RelV v u → Q v H' → CE outer P w H s Q u s' :=
    fun {σ' H' v u} J rv q => ⟨v, H', J.os, J.bare, J.base, J.hok, rv, q⟩
  cases fl with
  | ret u =>
    obtain ⟨v, σ', H', J, rv, q⟩ := hs
    exact fin J rv q
  | next =>
    obtain ⟨σ', H', J, q⟩ := hs
    exact fin (v := V.non) (u := Value.none) J rfl q
  | brk =>
    obtain ⟨_, _, _, q⟩ := hs
    exact False.elim q
  | cont =>
    obtain ⟨_, _, _, q⟩ := hs
    exact False.elim q
end L2
namespace L2
open PySem PySem.Spec PyProof.Rows
section
variable {X : Cx} {x : Str} {p pos : Pos} {e : Expr} {es : List Expr} {t : TA} {id T : String} {r : List V → Hp → VK → Prop}
def tCB (r : List V → Hp → VK → Prop) (t : TA) : TE := fun σ H Q => t σ H fun vs H1 => r vs H1 Q
theorem pe_callB (hc : CallR X (.builtin id) r) (hg : Gl X x) (hm : X.mg x = none) (hv : bootBuiltins x = some (.builtin id)) (ha : PA X (e :: es) t) (hn : x ≠ "__name__" := by decide) (hdb : (x == ("__debug__" : Str)) = false := by decide)
    (he : starEach (e :: es) X.env = (false, eval e X.env) :: starEach es X.env := by rfl) (hpl : (backTo pos (starEach es X.env)).any (·.1) = false := by rfl) : PE X (.Call (.Name x p) (e :: es) [] pos) (tCB r t) := by
  intro pins s σ H Q I h
  refine wpAny_Call_Name_kw (ld_blt I hg hm hv ?_ hn hdb)
  exact PyProof.Rows.callWith_builtin1 (thn (ha pos pins s σ H _ I h) fun us s1 ⟨vs, H1, I1, r1, q1⟩ => hc pins s1 σ H1 vs us Q I1 r1 q1) he hpl
theorem pe_callTy (hc : CallR X (.type T) r) (hg : Gl X x) (hm : X.mg x = none) (hv : bootBuiltins x = some (.type T)) (ha : PA X (e :: es) t) (hn : x ≠ "__name__" := by decide) (hdb : (x == ("__debug__" : Str)) = false := by decide)
    (he : starEach (e :: es) X.env = (false, eval e X.env) :: starEach es X.env := by rfl) (hpl : (backTo pos (starEach es X.env)).any (·.1) = false := by rfl) : PE X (.Call (.Name x p) (e :: es) [] pos) (tCB r t) := by
  intro pins s σ H Q I h
  refine wpAny_Call_Name_kw (ld_blt I hg hm hv ?_ hn hdb)
  exact PyProof.Rows.callWith_type1 (thn (ha pos pins s σ H _ I h) fun us s1 ⟨vs, H1, I1, r1, q1⟩ => hc pins s1 σ H1 vs us Q I1 r1 q1) he hpl
end
end L2
namespace HT
open PySem PyProof.Rows
def lexLt : List Int → List Int → Bool
  | [], [] => false
  | [], _ :: _ => true
  | _ :: _, [] => false
  | x :: xs, y :: ys => if x = y then lexLt xs ys else decide (x < y)
section
open PySem.SeqAt
open PySem.AutoSeq1 (wpAny_loadPart')
open PySem.MeetsSeq PySem.MeetsSeq2 PySem.MeetsSeq3
end
section
variable {prog : Program} {w : World} {A : Around} {E : Value → Shared → Prop} {s : Shared}
theorem cat_tup {t b : Addr} {vs ws : List Value} {Q : Value → Shared → Prop} (ht : IsTup s.heap t vs.toArray) (hb : IsTup s.heap b ws.toArray) (hv : vs ≠ [])
    (h1 : ws = [] → Q (.ref t) s) (h2 : ws ≠ [] → Q (.ref s.heap.objs.size) { s with heap := s.heap.push { cls := .type "tuple", data := .seq (vs ++ ws).toArray } })
    (hsz : vs.length + ws.length ≤ sizeLine) : wpAny (model prog w) A (binaryOp .Add (.ref t) (.ref b)) Q E s := by
  obtain ⟨⟨cls, dd, data, sl⟩, ho, hc, n, hd⟩ := id ht
  obtain ⟨⟨cls2, dd2, data2, sl2⟩, ho2, hc2, n2, hd2⟩ := id hb
  simp only at hc hd hc2 hd2
  subst hc hd hc2 hd2
  have e : vs.toArray ++ ws.toArray = (vs ++ ws).toArray := by simp
  by_cases hw : ws = []
  · exact concat_meets ⟨_, ho, rfl⟩ ⟨_, ho2, rfl⟩ noFill_tuple_add seq_tuple_add PySem.F.slot_tuple_add PySem.F.entry_tuple_add (PySem.F.args_tuple_add_2 _ _)
      (tuple_addW1 t b vs.toArray ws.toArray n n2 dd dd2 sl sl2 (by simpa using hv) (by simp [hw])) ⟨ho, ho2, h1 hw⟩
  · refine concat_meets ⟨_, ho, rfl⟩ ⟨_, ho2, rfl⟩ noFill_tuple_add seq_tuple_add PySem.F.slot_tuple_add PySem.F.entry_tuple_add (PySem.F.args_tuple_add_2 _ _)
      (tuple_addW2 t b vs.toArray ws.toArray n n2 dd dd2 sl sl2 (by simpa using hv) (by simpa using hw) (by rw [List.size_toArray, List.size_toArray]; exact hsz)) ⟨ho, ho2, ?_⟩
    rw [e]
    exact h2 hw
def sIx (n d : Nat) : Option Int → Nat
  | none => d
  | some v => if v < 0 then (v + (n : Int)).toNat else min v.toNat n
theorem sIx_nat (n d k : Nat) : sIx n d (some (k : Int)) = min k n := by
  show (if (k : Int) < 0 then ((k : Int) + (n : Int)).toNat else min (k : Int).toNat n) = min k n
  rw [if_neg (by omega), Int.toNat_natCast]
theorem sIx_le (n d : Nat) (hd : d ≤ n) (o : Option Int) : sIx n d o ≤ n := by
  cases o with
  | none => exact hd
  | some v =>
    show (if v < 0 then (v + (n : Int)).toNat else min v.toNat n) ≤ n
    by_cases hv : v < 0
    · rw [if_pos hv]; omega
    · rw [if_neg hv]; exact Nat.min_le_right _ _
end
end HT
namespace L2
open PySem PySem.Spec PyProof.Rows
abbrev TO := St → Hp → (Option Int → Hp → Prop) → Prop
def PO (X : Cx) (e : Option Expr) (t : TO) : Prop :=
  ∀ (pins : List (Addr × Obj)) (s : Shared) (σ : St) (H : Hp) (Q : Option Int → Hp → Prop), Inv X pins σ H s → t σ H Q →
    wpAny (model X.prog X.w) X.A (evalPart e X.env) (fun u s' => ∃ o H', Inv X pins σ H' s' ∧ IsPart u o ∧ Q o H') X.xe s
def tNoPart : TO := fun _ H Q => Q none H
def tPart (t : TE) : TO := fun σ H Q => t σ H fun x H1 => ∃ i, x = .int i ∧ Q (some i) H1
theorem intsAre_of {ns : List Int} : ∀ {us : List Value}, Vals (ns.map V.int) us → IntsAre us ns := by
  induction ns with
  | nil => intro us r; rw [List.map_nil] at r; cases r; exact .nil
  | cons n ns ih =>
    intro us r
    rw [List.map_cons] at r
    cases r with
    | cons r1 r2 =>
      obtain ⟨t, e⟩ := r1
      subst e
      exact .cons n t (ih r2)
section
variable {X : Cx} {e : Expr} {te : TE} {lo hi : Option Expr} {tl th : TO} {pos p2 : Pos}
theorem po_none : PO X none tNoPart := by
  intro pins s σ H Q I h
  rw [evalPart_none]
  exact wpAny_pure ⟨none, H, I, .none, h⟩
theorem po_some (h : PE X e te) : PO X (some e) (tPart te) := by
  intro pins s σ H Q I hw
  rw [evalPart_some]
  refine thn (h pins s σ H _ I hw) fun u s1 ⟨x, H1, I1, r1, q1⟩ => ?_
  obtain ⟨i, rfl, q⟩ := q1
  obtain ⟨t, rfl⟩ := r1
  exact ⟨some i, H1, I1, .int i t, q⟩
def SlR (X : Cx) (r : V → Option Int → Option Int → Hp → VK → Prop) : Prop :=
  ∀ (pins : List (Addr × Obj)) (s : Shared) (σ : St) (H : Hp) (x : V) (v vl vu : Value) (lo hi : Option Int) (sl : Addr) (Q : VK), Inv X pins σ H s → RelV x v → s.heap.IsSliceOf sl vl vu .none → IsPart vl lo → IsPart vu hi → r x lo hi H Q →
    ∃ T id, typeLookup (.type T) "__getitem__" = pure (some (.builtin id)) ∧ s.TypeIs v T ∧ wpAny (model X.prog X.w) X.A (getItem v (.ref sl)) (EP X pins σ Q) X.xe s
theorem SlR.or {r r' : V → Option Int → Option Int → Hp → VK → Prop} (h : SlR X r) (h' : SlR X r') : SlR X (fun x lo hi H Q => r x lo hi H Q ∨ r' x lo hi H Q) := by
  intro pins s σ H x v vl vu lo hi sl Q I rx hs pl pu q
  rcases q with q | q
  · exact h pins s σ H x v vl vu lo hi sl Q I rx hs pl pu q
  · exact h' pins s σ H x v vl vu lo hi sl Q I rx hs pl pu q
def tSl (r : V → Option Int → Option Int → Hp → VK → Prop) (te : TE) (tl th : TO) : TE := fun σ H Q => te σ H fun x H1 => tl σ H1 fun l H2 => th σ H2 fun u H3 => r x l u H3 Q
def cutV (xs : List V) (lo hi : Option Int) : List V := (xs.drop (HT.sIx xs.length 0 lo)).take (HT.sIx xs.length xs.length hi - HT.sIx xs.length 0 lo)
def rSlT (K : PySem.W.Frag) : V → Option Int → Option Int → Hp → VK → Prop := fun x lo hi H Q => ∃ a xs, x = .ref a ∧ SqT K H a xs ∧
  ¬ (HT.sIx xs.length 0 lo = 0 ∧ HT.sIx xs.length xs.length hi = xs.length) ∧ ∀ p, H p = none → Q (.ref p) (upd H p (.tup (cutV xs lo hi)))
def rLtT (K : PySem.W.Frag) : R2 := fun x y H Q => ∃ a b ns ms, x = .ref a ∧ y = .ref b ∧ SqT K H a (ns.map V.int) ∧ SqT K H b (ms.map V.int) ∧ Q (.bl (HT.lexLt ns ms)) H
def rCatT (K : PySem.W.Frag) : R2 := fun x y H Q => ∃ a b xs ys, x = .ref a ∧ y = .ref b ∧ SqT K H a xs ∧ SqT K H b ys ∧ xs ≠ [] ∧ xs.length + ys.length ≤ sizeLine ∧
  (ys = [] → Q (.ref a) H) ∧ (ys ≠ [] → ∀ p, H p = none → Q (.ref p) (upd H p (.tup (xs ++ ys))))
theorem Vals.nil_iff {xs : List V} {us : List Value} (r : Vals xs us) : us = [] ↔ xs = [] := by
  cases r with
  | nil => simp
  | cons _ _ => simp
theorem op_catT : OpR X (binaryOp .Add) (rCatT X.K) := by
  intro pins s σ H x y v u Q I rx ry h
  obtain ⟨a, b, xs, ys, rfl, rfl, ha, hb, hx, hz, q1, q2⟩ := h
  cases rx
  cases ry
  obtain ⟨its, r1, p1, _⟩ := I.tuple ha
  obtain ⟨its2, r2, p2, _⟩ := I.tuple hb
  refine HT.cat_tup p1 p2 (fun z => hx (r1.nil_iff.mp z)) (fun z => ⟨.ref a, H, I, rfl, q1 (r2.nil_iff.mp z)⟩) (fun z => ?_) (by rw [← r1.length, ← r2.length]; exact hz)
  refine ⟨.ref s.heap.objs.size, _, I.laid (t' := s.toks) (o := .tup (xs ++ ys)) (fun b ob q => Heap.get?_push_of_some _ q) (Nat.le_refl _) ?_, rfl, q2 (fun w => z (r2.nil_iff.mpr w)) _ (I.hok.fresh (Nat.le_refl _))⟩
  exact ⟨by rw [List.length_append]; exact hz, _, r1.append r2, IsTup.new _ _⟩
end
end L2
namespace L2
open PySem PySem.Spec PyProof.Rows
def ixN (n : Nat) (i : Int) : Option Nat := if 0 ≤ i then (if i < n then some i.toNat else none) else if -(n : Int) ≤ i then some (i + n).toNat else none
def atI {α : Type} (xs : List α) (i : Int) : Option α := (ixN xs.length i).bind fun j => xs[j]?
theorem ixN_seq {n : Nat} {i : Int} {j : Nat} (h : ixN n i = some j) : seqIndex? i n = some j ∧ j < n ∧ -(n : Int) ≤ i ∧ i < n := by
  unfold ixN at h
  by_cases h0 : 0 ≤ i
  · rw [if_pos h0] at h
    by_cases h1 : i < n
    · rw [if_pos h1] at h
      have e : i.toNat = j := Option.some.inj h
      exact ⟨by rw [seqIndex_of h0 h1, e], by omega, by omega, h1⟩
    · rw [if_neg h1] at h; cases h
  · rw [if_neg h0] at h
    by_cases h1 : -(n : Int) ≤ i
    · rw [if_pos h1] at h
      have e : (i + n).toNat = j := Option.some.inj h
      exact ⟨by rw [seqIndex_neg (by omega) h1, e], by omega, h1, by omega⟩
    · rw [if_neg h1] at h; cases h
theorem atI_get {α : Type} {xs : List α} {i : Int} {v : α} (h : atI xs i = some v) : ∃ j, seqIndex? i xs.length = some j ∧ xs[j]? = some v ∧ j < xs.length ∧ -(xs.length : Int) ≤ i ∧ i < xs.length := by
  unfold atI at h
  cases e : ixN xs.length i with
  | none => rw [e] at h; cases h
  | some j =>
    rw [e] at h
    obtain ⟨h1, h2, h3, h4⟩ := ixN_seq e
    exact ⟨j, h1, h, h2, h3, h4⟩
theorem atI_nat {α : Type} {xs : List α} {j : Nat} {v : α} (h : xs[j]? = some v) : atI xs (j : Int) = some v := by
  have hj : j < xs.length := (List.getElem?_eq_some_iff.mp h).1
  have e : ixN xs.length (j : Int) = some j := by
    unfold ixN
    rw [if_pos (by omega), if_pos (by omega)]; simp
  unfold atI; rw [e]; exact h
def PlainIx (b : Expr) : Prop := ∀ o i, subscripted b false o i = operate [o, i] (getItem o i)
def IxR (X : Cx) (r : R2) : Prop :=
  ∀ (value slice : Expr) (pins : List (Addr × Obj)) (s : Shared) (σ : St) (H : Hp) (x y : V) (v u : Value) (Q : VK), Inv X pins σ H s → RelV x v → RelV y u → r x y H Q →
    subscripted slice false v u = operate [v, u] (getItem v u) → wpAny (model X.prog X.w) X.A (subscriptTail value slice v u) (EP X pins σ Q) X.xe s
def MtR (X : Cx) (id : String) (r : V → List V → Hp → VK → Prop) : Prop :=
  ∀ (pins : List (Addr × Obj)) (s : Shared) (σ : St) (H : Hp) (x : V) (xs : List V) (v : Value) (us : List Value) (Q : VK), Inv X pins σ H s → RelV x v → Vals xs us → r x xs H Q →
    wpAny (model X.prog X.w) X.A (call (.builtin id) (v :: us)) (EP X pins σ Q) X.xe s
section
variable {X : Cx} {a b : Expr} {ta tb : TE} {pos : Pos}
theorem IxR.or {r r' : R2} (h : IxR X r) (h' : IxR X r') : IxR X (fun x y H Q => r x y H Q ∨ r' x y H Q) := by
  intro value slice pins s σ H x y v u Q I rx ry q hs
  rcases q with q | q
  · exact h value slice pins s σ H x y v u Q I rx ry q hs
  · exact h' value slice pins s σ H x y v u Q I rx ry q hs
theorem MtR.or {id : String} {r r' : V → List V → Hp → VK → Prop} (h : MtR X id r) (h' : MtR X id r') : MtR X id (fun x xs H Q => r x xs H Q ∨ r' x xs H Q) := by
  intro pins s σ H x xs v us Q I rx rs q
  rcases q with q | q
  · exact h pins s σ H x xs v us Q I rx rs q
  · exact h' pins s σ H x xs v us Q I rx rs q
theorem pe_ix {r : R2} (hr : IxR X r) (ha : PE X a ta) (hb : PE X b tb) (hs : PlainIx b) : PE X (.Subscript a b pos) (tOp r ta tb) := by
  intro pins s σ H Q I h
  exact Subscript_ (binT ha hb I h fun v u s2 x y H2 I2 rx ry q => hr a b pins s2 σ H2 x y v u Q I2 rx ry q (hs _ _))
def rIxL (K : PySem.W.Frag) : R2 := fun x y H Q => ∃ p xs i v, x = .ref p ∧ y = .int i ∧ SqL K H p xs ∧ atI xs i = some v ∧ Q v H
def rIxT (K : PySem.W.Frag) : R2 := fun x y H Q => ∃ p xs i v, x = .ref p ∧ y = .int i ∧ SqT K H p xs ∧ atI xs i = some v ∧ Q v H
def rIxS : R2 := fun x y H Q => ∃ z i c, x = .str z ∧ y = .int i ∧ z.length ≤ sizeLine ∧ atI z.cps.toList i = some c ∧ Q (.str ⟨#[c]⟩) H
theorem ix_list : IxR X (rIxL X.K) := by
  intro value slice pins s σ H x y v u Q I rx ry h hs
  obtain ⟨p, xs, i, z, rfl, rfl, hq, he, q⟩ := h
  cases rx
  obtain ⟨t, rfl⟩ := ry
  obtain ⟨its, r, pl, hz⟩ := I.list hq
  obtain ⟨j, h1, h2, h3, h4, h5⟩ := atI_get he
  obtain ⟨w, ew, rw'⟩ := r.get h2
  have hl := r.length
  have hn := line63
  have fin : EP X pins σ Q w s := ⟨z, H, I, rw', q⟩
  by_cases h0 : 0 ≤ i
  · have hj : i.toNat = j := by
      rw [seqIndex_of h0 h5] at h1
      exact Option.some.inj h1
    exact item_listR pl.isList h0 (by omega) (by rw [hj]; simpa using ew) fin hs
  · have hj : (i + (its.toArray.size : Int)).toNat = j := by
      rw [seqIndex_neg (by omega) h4] at h1
      rw [List.size_toArray, ← hl]
      exact Option.some.inj h1
    exact subscriptTail_builtinR (x := w) pl.isList.typeIs slot_list_getitem.lookup
      (wpAny_getItem_list_neg (Q := fun r s' => r = w ∧ EP X pins σ Q r s') pl.isList (by omega) (by rw [List.size_toArray] <;> omega) (by omega) (by rw [hj]; simpa using ew) ⟨rfl, fin⟩) hs
theorem ix_tup : IxR X (rIxT X.K) := by
  intro value slice pins s σ H x y v u Q I rx ry h hs
  obtain ⟨p, xs, i, z, rfl, rfl, hq, he, q⟩ := h
  cases rx
  obtain ⟨t, rfl⟩ := ry
  obtain ⟨its, r, pl, hz⟩ := I.tuple hq
  obtain ⟨j, h1, h2, h3, h4, h5⟩ := atI_get he
  obtain ⟨w, ew, rw'⟩ := r.get h2
  have hl := r.length
  have hn := line63
  have fin : EP X pins σ Q w s := ⟨z, H, I, rw', q⟩
  exact subscriptTail_builtinR (x := w) pl.typeIs slot_tuple_getitem.lookup
    (getItem_tuple (j := j) (Q := fun r s' => r = w ∧ EP X pins σ Q r s') pl (by omega) (by omega) (by rw [List.size_toArray, ← hl]; exact h1) (by simpa using ew) ⟨rfl, fin⟩) hs
theorem ix_str : IxR X rIxS := by
  intro value slice pins s σ H x y v u Q I rx ry h hs
  obtain ⟨z, i, c, rfl, rfl, hz, he, q⟩ := h
  obtain ⟨t, rfl⟩ := rx
  obtain ⟨t', rfl⟩ := ry
  obtain ⟨j, h1, h2, h3, h4, h5⟩ := atI_get he
  have hl : z.cps.toList.length = z.length := by simp [Str.length]
  rw [hl] at h1 h4 h5
  have hn := line63
  exact tail_any (typeIs_str s z t) slot_str_getitem.lookup (getItem_str (c := c) (by
    have e1 : decide (i < -(2 ^ 63 : Int)) = false := decide_eq_false (by omega)
    have e2 : decide (i ≥ 2 ^ 63) = false := decide_eq_false (by omega)
    rw [e1, e2, Bool.or_false]) (by rw [h1]; simpa using h2) ⟨.str ⟨#[c]⟩, H, I.tok _, ⟨_, rfl⟩, q⟩) hs
def rIx (K : PySem.W.Frag) : R2 := fun x y H Q => rIxL K x y H Q ∨ rIxT K x y H Q ∨ rIxS x y H Q
theorem Inv.lst {pins : List (Addr × Obj)} {σ : St} {H : Hp} {s : Shared} {p : Addr} {xs : List V} (I : Inv X pins σ H s) (h : H p = some (.lst xs)) :
    ∃ (its : List Value) (n : Nat), Vals xs its ∧ s.heap.get? p = some { cls := .type "list", data := .seq its.toArray n } ∧ xs.length ≤ sizeLine := by
  obtain ⟨z, its, n, r, e⟩ := I.hok p _ h
  exact ⟨its, n, r, e, z⟩
def rSetL : V → V → V → Hp → (Hp → Prop) → Prop := fun o i v H Q => ∃ p xs k j, o = .ref p ∧ i = .int k ∧ H p = some (.lst xs) ∧ ixN xs.length k = some j ∧ Q (upd H p (.lst (xs.set j v)))
def rSlL (K : PySem.W.Frag) : V → Option Int → Option Int → Hp → VK → Prop := fun x lo hi H Q => ∃ a xs, x = .ref a ∧ SqL K H a xs ∧ ∀ p, H p = none → Q (.ref p) (upd H p (.lst (cutV xs lo hi)))
def flatV : V → Bool
  | .non => true
  | .bl _ => true
  | .int _ => true
  | .str _ => true
  | _ => false
def eqV : V → V → Bool
  | .non, .non => true
  | .bl a, .bl b => a == b
  | .bl a, .int b => (if a then 1 else 0) == b
  | .int a, .bl b => a == (if b then 1 else 0)
  | .int a, .int b => a == b
  | .str a, .str b => a == b
  | _, _ => false
def eqU (x : V) (u : Value) : Bool := match u with
  | .none => eqV .non x
  | .bool b => eqV (.bl b) x
  | .int i _ => eqV (.int i) x
  | .str z _ => eqV (.str z) x
  | _ => false
def inV (x : V) (xs : List V) : Bool := xs.any fun y => eqV y x
def rIn (K : PySem.W.Frag) (neg : Bool) : R2 := fun x y H Q => ∃ p xs, y = .ref p ∧ (SqL K H p xs ∨ SqT K H p xs) ∧ flatV x = true ∧ xs.all flatV = true ∧ Q (.bl (if neg then !inV x xs else inV x xs)) H
theorem call_len_seq : CallR X (.builtin "len") (fun xs H Q => ∃ p ys, xs = [.ref p] ∧ (SqL X.K H p ys ∨ SqT X.K H p ys) ∧ Q (.int ys.length) H) := by
  intro pins s σ H xs us Q I r h
  obtain ⟨p, ys, rfl, hq, q⟩ := h
  obtain ⟨u, rfl, rx⟩ := vals1 r
  cases rx
  have hn := line63
  rcases hq with hq | hq
  · obtain ⟨its, r', pl, hz⟩ := I.list hq
    have hlen := r'.length
    exact Calls.call_len_list pl.isList (by simp only [List.size_toArray] <;> omega) ⟨.int ys.length, H, I.tok _, ⟨s.toks + 1, by rw [List.size_toArray, hlen]⟩, q⟩
  · obtain ⟨its, r', pl, hz⟩ := I.tuple hq
    have hlen := r'.length
    exact len_tuple pl (by simp only [List.size_toArray] <;> omega) ⟨.int ys.length, H, I.tok _, ⟨s.toks + 1, by rw [List.size_toArray, hlen]⟩, q⟩
theorem call_len_str : CallR X (.builtin "len") (fun xs H Q => ∃ z, xs = [.str z] ∧ z.length ≤ sizeLine ∧ Q (.int z.length) H) := by
  intro pins s σ H xs us Q I r h
  obtain ⟨z, rfl, hz, q⟩ := h
  obtain ⟨u, rfl, t, rfl⟩ := vals1 r
  have hn := line63
  exact len_str (by omega) ⟨.int z.length, H, I.tok _, ⟨_, rfl⟩, q⟩
theorem CallR.or {f : Value} {r r' : List V → Hp → VK → Prop} (h : CallR X f r) (h' : CallR X f r') : CallR X f (fun xs H Q => r xs H Q ∨ r' xs H Q) := by
  intro pins s σ H xs us Q I rs q
  rcases q with q | q
  · exact h pins s σ H xs us Q I rs q
  · exact h' pins s σ H xs us Q I rs q
theorem call_list_of : CallR X (.type "list") (fun xs H Q => ∃ p ys, xs = [.ref p] ∧ (SqL X.K H p ys ∨ SqT X.K H p ys) ∧ ∀ l, H l = none → Q (.ref l) (upd H l (.lst ys))) := by
  intro pins s σ H xs us Q I r h
  obtain ⟨p, ys, rfl, hq, q⟩ := h
  obtain ⟨u, rfl, rx⟩ := vals1 r
  cases rx
  have fin : ∀ (its : List Value), Vals ys its → ys.length ≤ sizeLine → ∀ (h' : Heap) (c' : Nat), (∀ b o', s.heap.get? b = some o' → h'.get? b = some o') →
      h'.get? s.heap.objs.size = some { cls := .type "list", dict := none, data := .seq its.toArray c', slots := #[] } → EP X pins σ Q (.ref s.heap.objs.size) { s with heap := h' } := fun its r' hz h' c' kp e =>
    ⟨.ref s.heap.objs.size, _, I.laid (t' := s.toks) kp (Nat.le_refl _) (show ObjOk X.prog X.w _ h' _ (.lst ys) from ⟨hz, its, c', r', e⟩), rfl, q _ (I.hok.fresh (Nat.le_refl _))⟩
  rcases hq with hq | hq
  · obtain ⟨its, r', pl, hz⟩ := I.list hq
    have hlen := r'.length
    obtain ⟨o, ho, hc, n, hd⟩ := pl.isList
    exact call_list_seq p (.inl rfl) ho hc hd (fun h' c' kp e => fin its r' hz h' c' kp e) (by simp only [List.size_toArray] <;> omega)
  · obtain ⟨its, r', pl, hz⟩ := I.tuple hq
    have hlen := r'.length
    obtain ⟨o, ho, hc, n, hd⟩ := pl
    exact call_list_seq p (.inr rfl) ho hc hd (fun h' c' kp e => fin its r' hz h' c' kp e) (by simp only [List.size_toArray] <;> omega)
def tyV (K : PySem.W.Frag) (T : String) (x : V) (H : Hp) : Prop := match x with
  | .str _ => T = "str"
  | .int _ => T = "int"
  | .ref p => (T = "list" ∧ ∃ xs, SqL K H p xs) ∨ (T = "tuple" ∧ ∃ o, K.lookup p = some o ∧ o.cls = .type "tuple" ∧ o.dict = none) ∨
      (T = "dict" ∧ ((∃ kvs, H p = some (.dK kvs)) ∨ ∃ kvs, H p = some (.dT kvs))) ∨ (T = "set" ∧ ∃ S n, H p = some (.set S n))
  | _ => False
theorem tyV_is {pins : List (Addr × Obj)} {σ : St} {H : Hp} {s : Shared} {T : String} {x : V} {v : Value} (I : Inv X pins σ H s) (r : RelV x v) (ty : tyV X.K T x H) :
    s.TypeIs v T ∧ ∀ a, v = .ref a → ∃ ob, s.heap.get? a = some ob ∧ ob.dict = none := by
  cases x with
  | str z =>
    obtain ⟨t, rfl⟩ := r
    cases (show T = "str" from ty)
    exact ⟨typeIs_str s z t, fun _ e => nomatch e⟩
  | int i =>
    obtain ⟨t, rfl⟩ := r
    cases (show T = "int" from ty)
    exact ⟨typeIs_int s i t, fun _ e => nomatch e⟩
  | ref p =>
    cases r
    rcases ty with ⟨rfl, xs, hq⟩ | ⟨rfl, o, hk, hc, hd⟩ | ⟨rfl, hk⟩ | ⟨rfl, S, n, hk⟩
    · obtain ⟨its, _, pl, _⟩ := I.list hq
      refine ⟨pl.isList.typeIs, fun a e => ?_⟩
      cases e
      obtain ⟨o, n, e, c, hd, _⟩ := pl
      exact ⟨o, e, hd⟩
    · refine ⟨⟨o, I.kIn p o hk, hc⟩, fun a e => ?_⟩
      cases e
      exact ⟨o, I.kIn _ o hk, hd⟩
    · have z : ∃ o, s.heap.get? p = some o ∧ o.ExactDict := by
        rcases hk with ⟨kvs, hk⟩ | ⟨kvs, hk⟩
        · obtain ⟨_, _, _, _, o, _, _, e, ex, _⟩ := I.hok p _ hk
          exact ⟨o, e, ex⟩
        · obtain ⟨_, _, _, _, o, _, _, e, ex, _⟩ := I.hok p _ hk
          exact ⟨o, e, ex⟩
      obtain ⟨o, e, ex⟩ := z
      refine ⟨⟨o, e, ex.1⟩, fun a e2 => ?_⟩
      cases e2
      exact ⟨o, e, ex.2.1⟩
    · obtain ⟨o, _, _, _, e, ex, _⟩ := I.hok p _ hk
      refine ⟨⟨o, e, ex.1⟩, fun a e2 => ?_⟩
      cases e2
      exact ⟨o, e, ex.2.1⟩
  | _ => exact False.elim ty
def tBM0 (K : PySem.W.Frag) (T : String) (r : V → List V → Hp → VK → Prop) (to : TE) : TE := fun σ H Q => to σ H fun x H1 => tyV K T x H1 ∧ r x [] H1 Q
def tBM (K : PySem.W.Frag) (T : String) (r : V → List V → Hp → VK → Prop) (to : TE) (t : TA) : TE := fun σ H Q => to σ H fun x H1 => tyV K T x H1 ∧ t σ H1 fun xs H2 => r x xs H2 Q
variable {o e : Expr} {es : List Expr} {to : TE} {t : TA} {name : Str} {apos cpos : Pos} {T id : String} {r : V → List V → Hp → VK → Prop}
theorem pe_bm0 (pa : PlainAttrs T) (slot : Slot T name id) (hty : typeOf (.builtin id) = pure (.type "method_descriptor")) (hm : MtR X id r) (ho : PE X o to)
    (hbase : attributeBase o name X.env (eval o X.env) = eval o X.env := by rfl) (hline : (apos.endLine == cpos.line) = true := by rfl) : PE X (.Call (.Attribute o name apos) [] [] cpos) (tBM0 X.K T r to) := by
  intro pins s σ H Q I h
  refine wpAny_Call_method0_late hbase hline (thn (ho pins s σ H _ I h) fun v s1 ⟨x, H1, I1, r1, ty, q1⟩ => ?_)
  obtain ⟨h1, h2⟩ := tyV_is I1 r1 ty
  exact ⟨T, id, pa, slot, hty, h1, h2, Calls.callWith_builtin rfl (PySem.evalArgs_none (hm pins s1 σ H1 x [] v [] Q I1 r1 .nil q1))⟩
theorem pe_bm (pa : PlainAttrs T) (slot : Slot T name id) (hty : typeOf (.builtin id) = pure (.type "method_descriptor")) (hm : MtR X id r) (ho : PE X o to) (ha : PA X (e :: es) t)
    (hbase : attributeBase o name X.env (eval o X.env) = eval o X.env := by rfl)
    (hfew : ((backTo cpos (starEach (e :: es) X.env)).all (fun x => !x.1) && (backToKw cpos (keywordEach [] X.env)).all (fun x => x.1.isSome)
      && decide ((e :: es).length + ([] : List Keyword).length + (if ([] : List Keyword).isEmpty then 0 else 1) < 30)) = true := by rfl)
    (hline : (apos.endLine == cpos.line) = true := by rfl) (hs : starEach (e :: es) X.env = (false, eval e X.env) :: starEach es X.env := by rfl) (hplain : (backTo cpos (starEach es X.env)).any (·.1) = false := by rfl) :
    PE X (.Call (.Attribute o name apos) (e :: es) [] cpos) (tBM X.K T r to t) := by
  intro pins s σ H Q I h
  refine wpAny_Call_method_late hbase hfew hline rfl (thn (ho pins s σ H _ I h) fun v s1 ⟨x, H1, I1, r1, ty, q1⟩ => ?_)
  obtain ⟨h1, h2⟩ := tyV_is I1 r1 ty
  refine ⟨T, id, pa, slot, hty, h1, h2, ?_⟩
  have hA := ha cpos pins s1 σ H1 _ I1 q1
  rw [hs] at hA ⊢
  refine Calls.callWith_builtin (by show (false || (backTo cpos (starEach es X.env)).any (·.1)) = false; rw [hplain] <;> rfl) (Calls.evalArgs_plain ?_)
  exact thn hA fun us s2 ⟨vs, H2, I2, r2, q2⟩ => hm pins s2 σ H2 x vs v us Q I2 r1 r2 q2
end
end L2
namespace L2
open PySem PySem.Spec PyProof.Rows
def MtM (X : Cx) (id : String) (r : V → List V → Hp → VK → Prop) : Prop :=
  ∀ (pins : List (Addr × Obj)) (s : Shared) (σ : St) (H : Hp) (x : V) (xs : List V) (v : Value) (us : List Value) (Q : VK), Inv X pins σ H s → RelV x v → Vals xs us → r x xs H Q →
    wpAny (model X.prog X.w) X.A (call (.builtin id) (v :: us)) (EP X pins σ Q) X.xe s
theorem Vals.one : ∀ {x : V} {us : List Value}, Vals [x] us → ∃ u, us = [u] ∧ RelV x u
  | _, _, .cons r .nil => ⟨_, rfl, r⟩
theorem Vals.zero : ∀ {us : List Value}, Vals [] us → us = []
  | _, .nil => rfl
theorem Vals.dropLast {xs : List V} {us : List Value} (h : Vals xs us) : Vals xs.dropLast us.dropLast := by
  induction h with
  | nil => exact .nil
  | cons r t ih =>
    cases t with
    | nil => exact .nil
    | cons q t' => exact .cons r ih
theorem Vals.eraseIdx : ∀ {xs : List V} {us : List Value} (i : Nat), Vals xs us → Vals (xs.eraseIdx i) (us.eraseIdx i)
  | _, _, _, .nil => .nil
  | _, _, 0, .cons _ t => t
  | _, _, i + 1, .cons r t => .cons r (Vals.eraseIdx i t)
theorem Vals.reverse {xs : List V} {us : List Value} (h : Vals xs us) : Vals xs.reverse us.reverse := by
  induction h with
  | nil => exact .nil
  | cons r t ih => rw [List.reverse_cons, List.reverse_cons]; exact Vals.append ih (.cons r .nil)
theorem Vals.rep {xs : List V} {us : List Value} (h : Vals xs us) : ∀ k : Nat, Vals (List.replicate k xs).flatten (List.replicate k us).flatten
  | 0 => .nil
  | k + 1 => by
    rw [List.replicate_succ, List.replicate_succ, List.flatten_cons, List.flatten_cons]
    exact Vals.append h (Vals.rep h k)
theorem foldl_rep (its : List Value) : ∀ (k : Nat) (acc : List Value),
    List.foldl (fun x1 x2 => x1 ++ x2) acc.toArray (List.replicate k its.toArray) = (acc ++ (List.replicate k its).flatten).toArray
  | 0, acc => by simp
  | k + 1, acc => by
    have e : acc.toArray ++ its.toArray = (acc ++ its).toArray := by simp
    have e2 : (acc ++ its) ++ (List.replicate k its).flatten = acc ++ (List.replicate (k + 1) its).flatten := by
      rw [List.replicate_succ, List.flatten_cons, List.append_assoc]
    rw [← e2, ← foldl_rep its k (acc ++ its), ← e, List.replicate_succ, List.foldl_cons]
section
variable {X : Cx} {pins : List (Addr × Obj)} {σ : St} {H : Hp} {s : Shared} {l b : Addr} {xs ys zs : List V}
theorem Inv.lset {its its' : List Value} {n : Nat} {f : Array Value → Array Value} {t' : Nat} (I : Inv X pins σ H s) (hH : H l = some (.lst xs))
    (e : s.heap.get? l = some { cls := .type "list", data := .seq its.toArray n }) (hf : f its.toArray = its'.toArray) (hv : Vals ys its') (hz : ys.length ≤ sizeLine) :
    Inv X pins σ (upd H l (.lst ys)) { s with heap := s.heap.update l (Obj.mapSeq f), toks := t' } := by
  have q := PySem.IsL.update e f
  rw [hf] at q
  refine I.write (x := l) (e := l) (by rw [hH]; exact trivial) (.inl rfl) (fun b' u hb hu => (Heap.get?_update_other s.heap (Obj.mapSeq f) (Ne.symm hb)).trans hu) ⟨_, q⟩ ?_
  exact ⟨hz, its', _, hv, q⟩
theorem Inv.lnew {its : List Value} {t' : Nat} (I : Inv X pins σ H s) (hv : Vals ys its) (hz : ys.length ≤ sizeLine) :
    Inv X pins σ (upd H s.heap.objs.size (.lst ys)) { s with heap := s.heap.push { cls := .type "list", data := .seq its.toArray }, toks := t' } :=
  I.laid (fun _ _ q => Heap.get?_push_of_some _ q) (Nat.le_refl _) ⟨hz, its, 0, hv, Heap.get?_push_size _ rfl⟩
theorem Inv.fresh (I : Inv X pins σ H s) : H s.heap.objs.size = none := I.hok.fresh (Nat.le_refl _)
theorem Inv.lstM (I : Inv X pins σ H s) (hH : H l = some (.lst xs)) : xs.length ≤ sizeLine ∧ ∃ (its : List Value) (n : Nat), Vals xs its ∧ xs.length = its.length ∧ s.heap.get? l = some { cls := .type "list", data := .seq its.toArray n } := by
  obtain ⟨z, its, n, r, e⟩ := I.hok l _ hH
  exact ⟨z, its, n, r, r.length, e⟩
theorem notLongL {n : Nat} (h : n ≤ sizeLine) : Builtin.List.listTooLong n = false := by
  unfold Builtin.List.listTooLong
  exact decide_eq_false (by omega)
end
section
variable {X : Cx}
def rAppend : V → List V → Hp → VK → Prop := fun x vs H Q => ∃ l xs y, x = .ref l ∧ vs = [y] ∧ H l = some (.lst xs) ∧ xs.length < sizeLine ∧ Q .non (upd H l (.lst (xs ++ [y])))
theorem mt_append : MtM X "list.append" rAppend := by
  intro pins s σ H x vs v us Q I rx rv h
  obtain ⟨l, xs, y, rfl, rfl, hH, hz, q⟩ := h
  cases rx
  obtain ⟨u, rfl, ru⟩ := rv.one
  obtain ⟨z, its, n, r, hl, e⟩ := I.lstM hH
  refine call_meets F.slot_list_append ⟨_, e, rfl⟩ F.entry_list_append (F.args_list_append_2 _ _) (PySem.list_append l its.toArray n u (by rw [List.size_toArray]; omega)) ⟨e, ?_⟩
  refine ⟨.non, _, I.lset (its' := its ++ [u]) hH e (by simp) (r.append (.cons ru .nil)) ?_, rfl, q⟩
  rw [List.length_append, List.length_singleton]
  omega
def rExtend : V → List V → Hp → VK → Prop := fun x vs H Q => ∃ l b xs zs, x = .ref l ∧ vs = [.ref b] ∧ H l = some (.lst xs) ∧ H b = some (.lst zs) ∧ xs.length + zs.length ≤ sizeLine ∧ Q .non (upd H l (.lst (xs ++ zs)))
def rPop : V → List V → Hp → VK → Prop := fun x vs H Q => ∃ l xs y, x = .ref l ∧ vs = [] ∧ H l = some (.lst xs) ∧ xs[xs.length - 1]? = some y ∧ Q y (upd H l (.lst xs.dropLast))
def rPopAt : V → List V → Hp → VK → Prop := fun x vs H Q => ∃ l xs i k y, x = .ref l ∧ vs = [.int i] ∧ H l = some (.lst xs) ∧ -(2 ^ 63) ≤ i ∧ i < 2 ^ 63 ∧ seqIndex? i xs.length = some k ∧ xs[k]? = some y ∧ Q y (upd H l (.lst (xs.eraseIdx k)))
def rReverse : V → List V → Hp → VK → Prop := fun x vs H Q => ∃ l xs, x = .ref l ∧ vs = [] ∧ H l = some (.lst xs) ∧ Q .non (upd H l (.lst xs.reverse))
def rClear : V → List V → Hp → VK → Prop := fun x vs H Q => ∃ l xs, x = .ref l ∧ vs = [] ∧ H l = some (.lst xs) ∧ Q .non (upd H l (.lst []))
def rCat : R2 := fun x y H Q => ∃ l b xs zs, x = .ref l ∧ y = .ref b ∧ H l = some (.lst xs) ∧ H b = some (.lst zs) ∧ xs.length + zs.length ≤ sizeLine ∧ ∀ p, H p = none → Q (.ref p) (upd H p (.lst (xs ++ zs)))
theorem op_cat : OpR X (binaryOp .Add) rCat := by
  intro pins s σ H x y v u Q I rx ry h
  obtain ⟨l, b, xs, zs, rfl, rfl, hH, hB, hz, q⟩ := h
  cases rx
  cases ry
  obtain ⟨z, its, n, r, hl, e⟩ := I.lstM hH
  obtain ⟨z2, its2, n2, r2, hl2, e2⟩ := I.lstM hB
  refine PySem.P.add_list e e2 ?_ (by rw [List.size_toArray, List.size_toArray]; omega)
  have ea : its.toArray ++ its2.toArray = (its ++ its2).toArray := by simp
  rw [ea]
  exact ⟨.ref _, _, I.lnew (t' := s.toks) (r.append r2) (by rw [List.length_append]; omega), rfl, q _ I.fresh⟩
def rRep : R2 := fun x y H Q => ∃ l k xs, x = .ref l ∧ y = .int k ∧ H l = some (.lst xs) ∧ -(2 ^ 63) ≤ k ∧ k < 2 ^ 63 ∧ xs.length * k.toNat ≤ sizeLine ∧
  ∀ p, H p = none → Q (.ref p) (upd H p (.lst (List.replicate k.toNat xs).flatten))
theorem len_rep {α : Type} (xs : List α) (k : Nat) : (List.replicate k xs).flatten.length = k * xs.length := by
  induction k with
  | zero => simp
  | succ k ih => rw [List.replicate_succ, List.flatten_cons, List.length_append, ih, Nat.succ_mul, Nat.add_comm]
theorem op_rep : OpR X (binaryOp .Mult) rRep := by
  intro pins s σ H x y v u Q I rx ry h
  obtain ⟨l, k, xs, rfl, rfl, hH, h1, h2, hz, q⟩ := h
  cases rx
  obtain ⟨t, rfl⟩ := ry
  obtain ⟨z, its, n, r, hl, e⟩ := I.lstM hH
  have hlen : its.toArray.size * k.toNat ≤ sizeLine := by rw [List.size_toArray, ← hl]; exact hz
  have hcap : ¬ its.toArray.size * k.toNat > (2 ^ 63 - 1) / 8 := by
    have : (sizeLine : Nat) ≤ (2 ^ 63 - 1) / 8 := by decide
    omega
  have hfit : ¬ (!Builtin.List.listFitsIndex k) = true := by
    rw [fitsIndex_both h1 h2]
    exact Bool.false_ne_true
  have hlong : ¬ Builtin.List.listTooLong (its.toArray.size * k.toNat) = true := by
    rw [notLongL hlen]
    exact Bool.false_ne_true
  have hnew : List.foldl (fun x1 x2 => x1 ++ x2) #[] (List.replicate (if its.toArray.isEmpty = true then 0 else k.toNat) its.toArray) = (List.replicate k.toNat its).flatten.toArray := by
    have f0 : ∀ m : Nat, List.foldl (fun x1 x2 => x1 ++ x2) #[] (List.replicate m its.toArray) = (List.replicate m its).flatten.toArray := fun m => by
      have := foldl_rep its m []
      rw [List.nil_append] at this
      exact this
    rw [f0]
    cases its with
    | nil => simp
    | cons a r' => rw [if_neg (by simp)]
  refine wpAny_binaryOp_repeat_ref (T := "list") (U := "int") (by decide) ⟨_, e, rfl⟩ (fun s' => typeIs_int s' k t) noFill_list_mul F.fills_int_mul F.slot_int_rmul repeat_list F.slot_int_index.lookup
    (call_meets F.slot_int_rmul (typeIs_int s k t) F.entry_int_rmul (F.args_int_rmul_2 _ _) (int___rmul___int_list k t l its.toArray n)
      ⟨e, rfl, ⟨_, e, rfl⟩, call_meets F.slot_list_mul ⟨_, e, rfl⟩ F.entry_list_mul (F.args_list_mul_2 _ _) (AutoListH.list___mul___list_int_3 l its.toArray n k t hfit hcap hlong) ⟨e, ?_⟩⟩)
  rw [hnew]
  exact ⟨.ref _, _, I.lnew (t' := s.toks) (r.rep k.toNat) (by rw [len_rep, Nat.mul_comm]; exact hz), rfl, q _ I.fresh⟩
end
section
variable {prog : Program} {w : World} {A : Around} {E : Value → Shared → Prop} {s : Shared}
end
section
variable {X : Cx}
end
end L2
namespace L2
open PySem PySem.Spec PyProof.Rows
section
variable {κ : Type} [DecidableEq κ]
def valV (kvs : List (κ × V)) (k : κ) : Option V := (kvs.find? fun kv => decide (kv.1 = k)).map (·.2)
def putK (kvs : List (κ × V)) (k : κ) (v : V) : List (κ × V) :=
  if (kvs.any fun kv => decide (kv.1 = k)) = true then kvs.map (fun kv => if kv.1 = k then (kv.1, v) else kv) else kvs ++ [(k, v)]
def dropK (kvs : List (κ × V)) (k : κ) : List (κ × V) := kvs.filter fun kv => decide (kv.1 ≠ k)
theorem valV_pos {p : κ × V} {r : List (κ × V)} {k : κ} (e : p.1 = k) : valV (p :: r) k = some p.2 := by simp [valV, List.find?_cons, e]
theorem valV_neg {p : κ × V} {r : List (κ × V)} {k : κ} (e : ¬ p.1 = k) : valV (p :: r) k = valV r k := by simp [valV, List.find?_cons, e]
theorem valV_any (k : κ) : ∀ kvs : List (κ × V), (kvs.any fun kv => decide (kv.1 = k)) = (valV kvs k).isSome
  | [] => rfl
  | p :: r => by
    rw [List.any_cons]
    by_cases e : p.1 = k
    · simp only [valV_pos e, decide_eq_true e, Bool.true_or, Option.isSome_some]
    · rw [valV_neg e, decide_eq_false e, Bool.false_or]; exact valV_any k r
theorem valV_map (k j : κ) (y : V) : ∀ kvs : List (κ × V), valV (kvs.map fun kv => if kv.1 = k then (kv.1, y) else kv) j = (valV kvs j).map fun x => if j = k then y else x
  | [] => rfl
  | p :: r => by
    have ih := valV_map k j y r
    rw [List.map_cons]
    by_cases h : p.1 = k
    · rw [if_pos h]
      by_cases e : p.1 = j
      · rw [valV_pos (p := (p.1, y)) e, valV_pos e, Option.map_some, if_pos (e.symm.trans h)]
      · rw [valV_neg (p := (p.1, y)) e, valV_neg e, ih]
    · rw [if_neg h]
      by_cases e : p.1 = j
      · rw [valV_pos (p := p) e, valV_pos e, Option.map_some, if_neg (fun z => h (e.trans z))]
      · rw [valV_neg (p := p) e, valV_neg e, ih]
theorem valV_snoc (k j : κ) (y : V) : ∀ kvs : List (κ × V), valV kvs k = none → valV (kvs ++ [(k, y)]) j = if j = k then some y else valV kvs j
  | [], _ => by
    by_cases e : k = j
    · rw [if_pos e.symm]; exact valV_pos (p := (k, y)) e
    · rw [if_neg (fun z => e z.symm)]; exact valV_neg (p := (k, y)) e
  | p :: r, hn => by
    rw [List.cons_append]
    have hk : ¬ p.1 = k := fun z => by rw [valV_pos z] at hn; cases hn
    rw [valV_neg hk] at hn
    have ih := valV_snoc k j y r hn
    by_cases e : p.1 = j
    · rw [valV_pos e, valV_pos e, if_neg (fun z => hk (e.trans z))]
    · rw [valV_neg e, valV_neg e, ih]
theorem valV_put (kvs : List (κ × V)) (k j : κ) (y : V) : valV (putK kvs k y) j = if j = k then some y else valV kvs j := by
  unfold putK
  by_cases a : (kvs.any fun kv => decide (kv.1 = k)) = true
  · rw [if_pos a, valV_map]
    rw [valV_any] at a
    by_cases e : j = k
    · obtain ⟨x, hx⟩ := Option.isSome_iff_exists.mp a
      rw [if_pos e, e, hx, Option.map_some, if_pos rfl]
    · rw [if_neg e]
      cases valV kvs j with
      | none => rfl
      | some x => rw [Option.map_some, if_neg e]
  · rw [if_neg a]
    refine valV_snoc k j y kvs ?_
    rw [valV_any] at a
    cases q : valV kvs k with
    | none => rfl
    | some x => rw [q] at a; exact (a rfl).elim
theorem length_putK (kvs : List (κ × V)) (k : κ) (v : V) : (putK kvs k v).length ≤ kvs.length + 1 := by
  unfold putK
  split
  · rw [List.length_map]; omega
  · rw [List.length_append, List.length_cons, List.length_nil]; omega
theorem RelO.isSome_eq {o : Option V} {u : Option Value} (r : RelO o u) : o.isSome = u.isSome := by
  cases o with
  | none => cases u with
    | none => rfl
    | some _ => exact (show False from r).elim
  | some _ => cases u with
    | none => exact (show False from r).elim
    | some _ => rfl
theorem RelO.getD {o : Option V} {u : Option Value} {d : V} {d' : Value} (r : RelO o u) (rd : RelV d d') : RelV (o.getD d) (u.getD d') := by
  cases o with
  | none => cases u with
    | none => exact rd
    | some _ => exact (show False from r).elim
  | some _ => cases u with
    | none => exact (show False from r).elim
    | some _ => exact r
theorem KV.val {kvs : List (κ × V)} {vs : List (κ × Value)} (r : KV kvs vs) (k : κ) : RelO (valV kvs k) (valueAt vs k) := by
  unfold KV at r
  induction r with
  | nil => exact True.intro
  | @cons p q ps qs h t ih =>
    obtain ⟨h1, h2⟩ := h
    by_cases e : p.1 = k
    · have e' : q.1 = k := h1.symm.trans e
      have b : valueAt (q :: qs) k = some q.2 := by simp [valueAt, List.find?_cons, e']
      rw [valV_pos e, b]; exact h2
    · have e' : ¬ q.1 = k := fun z => e (h1.trans z)
      have b : valueAt (q :: qs) k = valueAt qs k := by simp [valueAt, List.find?_cons, e']
      rw [valV_neg e, b]; exact ih
theorem KV.any {kvs : List (κ × V)} {vs : List (κ × Value)} (r : KV kvs vs) (k : κ) : (kvs.any fun kv => decide (kv.1 = k)) = vs.any fun kv => decide (kv.1 = k) := by
  unfold KV at r
  induction r with
  | nil => rfl
  | cons h t ih => rw [List.any_cons, List.any_cons, ih, h.1]
theorem KV.repl {kvs : List (κ × V)} {vs : List (κ × Value)} (r : KV kvs vs) (k : κ) {y : V} {u : Value} (ry : RelV y u) :
    KV (kvs.map fun kv => if kv.1 = k then (kv.1, y) else kv) (vs.map fun kv => if kv.1 = k then (kv.1, u) else kv) := by
  unfold KV at r ⊢
  induction r with
  | nil => exact .nil
  | @cons p q ps qs h t ih =>
    rw [List.map_cons, List.map_cons]
    refine .cons ?_ ih
    obtain ⟨h1, h2⟩ := h
    by_cases e : p.1 = k
    · rw [if_pos e, if_pos (h1.symm.trans e)]; exact ⟨h1, ry⟩
    · rw [if_neg e, if_neg (fun z => e (h1.trans z))]; exact ⟨h1, h2⟩
theorem KV.put {kvs : List (κ × V)} {vs : List (κ × Value)} (r : KV kvs vs) (k : κ) {y : V} {u : Value} (ry : RelV y u) : KV (putK kvs k y) (stored vs k u) := by
  unfold putK stored
  rw [r.any k]
  by_cases e : (vs.any fun kv => decide (kv.1 = k)) = true
  · rw [if_pos e, if_pos e]; exact r.repl k ry
  · rw [if_neg e, if_neg e]; exact Paired.snoc r ⟨rfl, ry⟩
theorem KV.drop {kvs : List (κ × V)} {vs : List (κ × Value)} (r : KV kvs vs) (k : κ) : KV (dropK kvs k) (without vs k) := by
  unfold KV at r ⊢
  unfold dropK without
  induction r with
  | nil => exact .nil
  | @cons p q ps qs h t ih =>
    obtain ⟨h1, h2⟩ := h
    rw [List.filter_cons, List.filter_cons]
    by_cases e : p.1 = k
    · have a : ¬ decide (p.1 ≠ k) = true := by simp [e]
      have b : ¬ decide (q.1 ≠ k) = true := by simp [h1.symm.trans e]
      rw [if_neg a, if_neg b]; exact ih
    · have e' : ¬ q.1 = k := fun z => e (h1.trans z)
      have a : decide (p.1 ≠ k) = true := by simp [e]
      have b : decide (q.1 ≠ k) = true := by simp [e']
      rw [if_pos a, if_pos b]; exact .cons ⟨h1, h2⟩ ih
theorem KV.keys {kvs : List (κ × V)} {vs : List (κ × Value)} (r : KV kvs vs) : kvs.map (·.1) = vs.map (·.1) := by
  unfold KV at r
  induction r with
  | nil => rfl
  | cons h t ih => rw [List.map_cons, List.map_cons, ih, h.1]
theorem KV.length {kvs : List (κ × V)} {vs : List (κ × Value)} (r : KV kvs vs) : kvs.length = vs.length := Paired.length r
end
theorem kV_is {P : Program} {w : World} {k : Key} {u : Value} (r : RelV (kV k) u) : (mixKind P w).is k u = true := by
  cases k with
  | inl i => obtain ⟨t, e⟩ := (show ∃ t, u = Value.int i t from r); subst e; exact mixKind_int P w i t
  | inr x => obtain ⟨t, e⟩ := (show ∃ t, u = Value.str x t from r); subst e; exact mixKind_str P w x t
theorem tkV_is {P : Program} {w : World} {k : TKey} {u : Value} (r : RelV (tkV k) u) : (tkKind P w).is k u = true := by
  cases k with
  | inl x => obtain ⟨t, e⟩ := (show ∃ t, u = Value.str x t from r); subst e; show Value.isStrOf x (.str x t) = true; simp [Value.isStrOf]
  | inr b => have e : u = Value.bool b := r; subst e; exact beq_self_eq_true _
theorem items_are {P : Program} {w : World} : ∀ {ks : List TKey} {us : List Value}, Vals (ks.map tkV) us → ItemsAre (tkKind P w) ks us
  | [], _, r => by rw [List.map_nil] at r; cases r; exact .nil
  | k :: ks, _, r => by
    rw [List.map_cons] at r
    cases r with
    | cons h t => exact .cons (tkV_is h) (items_are t)
abbrev KT (H : Hp) : List (List TKey × V) → List (List TKey × Addr × Value) → Prop := Paired fun p q => p.1 = q.1 ∧ H q.2.1 = some (.tup (p.1.map tkV)) ∧ RelV p.2 q.2.2
theorem KT.val {H : Hp} {kvs : List (List TKey × V)} {xs : List (List TKey × Addr × Value)} (r : KT H kvs xs) (k : List TKey) : RelO (valV kvs k) ((atKey xs k).map (·.2)) := by
  induction r with
  | nil => exact True.intro
  | @cons p q ps qs h t ih =>
    obtain ⟨h1, _, h2⟩ := h
    by_cases e : p.1 = k
    · have e' : q.1 = k := h1.symm.trans e
      have b : atKey (q :: qs) k = some q.2 := by simp [atKey, List.find?_cons, e']
      rw [valV_pos e, b]; exact h2
    · have e' : ¬ q.1 = k := fun z => e (h1.trans z)
      have b : atKey (q :: qs) k = atKey qs k := by simp [atKey, List.find?_cons, e']
      rw [valV_neg e, b]; exact ih
theorem KT.repl {H : Hp} {kvs : List (List TKey × V)} {xs : List (List TKey × Addr × Value)} (r : KT H kvs xs) (k : List TKey) {y : V} {u : Value} (ry : RelV y u) :
    KT H (kvs.map fun kv => if kv.1 = k then (kv.1, y) else kv) (xs.map (putAt k u)) := by
  induction r with
  | nil => exact .nil
  | @cons p q ps qs h t ih =>
    rw [List.map_cons, List.map_cons]
    refine .cons ?_ ih
    obtain ⟨h1, h2, h3⟩ := h
    unfold putAt
    by_cases e : p.1 = k
    · rw [if_pos e, if_pos (h1.symm.trans e)]; exact ⟨h1, h2, ry⟩
    · rw [if_neg e, if_neg (fun z => e (h1.trans z))]; exact ⟨h1, h2, h3⟩
theorem KT.put {H : Hp} {kvs : List (List TKey × V)} {xs : List (List TKey × Addr × Value)} (r : KT H kvs xs) (k : List TKey) {b : Addr} {y : V} {u : Value} (hb : H b = some (.tup (k.map tkV))) (ry : RelV y u) :
    KT H (putK kvs k y) (storedH xs k b u) := by
  have e : (kvs.any fun kv => decide (kv.1 = k)) = (atKey xs k).isSome := by
    rw [valV_any, (r.val k).isSome_eq, Option.isSome_map]
  unfold putK storedH
  rw [e]
  by_cases q : (atKey xs k).isSome = true
  · rw [if_pos q, if_pos q]; exact r.repl k ry
  · rw [if_neg q, if_neg q]; exact Paired.snoc r ⟨rfl, hb, ry⟩
theorem KT.keeps {H H' : Hp} {kvs : List (List TKey × V)} {xs : List (List TKey × Addr × Value)} (r : KT H kvs xs) (ht : ∀ b ys, H b = some (.tup ys) → H' b = some (.tup ys)) : KT H' kvs xs :=
  Paired.mapP r fun _ _ z => ⟨z.1, ht _ _ z.2.1, z.2.2⟩
section
variable {P : Program} {w : World} {H : Hp} {h : Heap} {a : Addr}
theorem rd_of {u : HO} (ok : HOk P w H h) (e : Rd H a u) : ObjOk P w H h a u := e.ok ok
theorem dk_rd {kvs : List (Key × V)} (ok : HOk P w H h) (e : Rd H a (.dK kvs)) : kvs.length ≤ sizeLine ∧ (a == sysModules) = false ∧ ∃ vs, KV kvs vs ∧ h.DictOf (mixKind P w) a vs :=
  show ObjOk P w H h a (.dK kvs) from rd_of ok e
theorem dk_of {kvs : List (Key × V)} (ok : HOk P w H h) (e : H a = some (.dK kvs)) : kvs.length ≤ sizeLine ∧ (a == sysModules) = false ∧ ∃ vs, KV kvs vs ∧ h.DictOf (mixKind P w) a vs := dk_rd ok (.inl e)
theorem key_of {ks : List TKey} (ok : HOk P w H h) (e : H a = some (.tup (ks.map tkV))) : (tupleKind (tkKind P w)).is h ks a := by
  obtain ⟨_, its, r, o, h1, h2, n, h3⟩ := (show ObjOk P w H h a (.tup (ks.map tkV)) from ok a _ e)
  exact ⟨o, its.toArray, n, h1, h2, h3, by simpa using items_are r⟩
theorem dt_rd {kvs : List (List TKey × V)} (ok : HOk P w H h) (e : Rd H a (.dT kvs)) : kvs.length ≤ sizeLine ∧ (a == sysModules) = false ∧
    ∃ xs, KT H kvs xs ∧ h.DictOfH (tupleKind (tkKind P w)) a xs := by
  obtain ⟨z, y, xs, r, o, es, ep, h1, h2, h3, h4, h5⟩ := (show ObjOk P w H h a (.dT kvs) from rd_of ok e)
  refine ⟨z, y, xs, r, o, es, ep, h1, h2, h3, h4, fun x hx => ?_, h5⟩
  have all : ∀ {l : List (List TKey × V)} {m : List (List TKey × Addr × Value)}, KT H l m → ∀ x ∈ m, (tupleKind (tkKind P w)).is h x.1 x.2.1 := by
    intro l m q
    induction q with
    | nil => intro x hx; exact nomatch hx
    | @cons p q ps qs hq t ih =>
      intro x hx
      rcases List.mem_cons.mp hx with e | hx
      · subst e
        exact key_of ok (by rw [← hq.1]; exact hq.2.1)
      · exact ih x hx
  exact all r x hx
theorem dt_of {kvs : List (List TKey × V)} (ok : HOk P w H h) (e : H a = some (.dT kvs)) : kvs.length ≤ sizeLine ∧ (a == sysModules) = false ∧
    ∃ xs, KT H kvs xs ∧ h.DictOfH (tupleKind (tkKind P w)) a xs := dt_rd ok (.inl e)
end
def DGet (H : Hp) (a : Addr) (y : V) (r : Option V) : Prop :=
  (∃ kvs k, Rd H a (.dK kvs) ∧ y = kV k ∧ r = valV kvs k) ∨ ∃ kvs k b, Rd H a (.dT kvs) ∧ y = .ref b ∧ H b = some (.tup (k.map tkV)) ∧ r = valV kvs k
def DPut (H : Hp) (a : Addr) (y v : V) (H' : Hp) : Prop :=
  (∃ kvs k, H a = some (.dK kvs) ∧ y = kV k ∧ kvs.length < sizeLine ∧ H' = upd H a (.dK (putK kvs k v))) ∨
  ∃ kvs k b, H a = some (.dT kvs) ∧ y = .ref b ∧ H b = some (.tup (k.map tkV)) ∧ kvs.length < sizeLine ∧ H' = upd H a (.dT (putK kvs k v))
theorem DGet.k {H : Hp} {a : Addr} {kvs : List (Key × V)} {k : Key} (e : H a = some (.dK kvs)) : DGet H a (kV k) (valV kvs k) := .inl ⟨kvs, k, .inl e, rfl, rfl⟩
theorem DGet.t {H : Hp} {a b : Addr} {kvs : List (List TKey × V)} {k : List TKey} (e : H a = some (.dT kvs)) (eb : H b = some (.tup (k.map tkV))) : DGet H a (.ref b) (valV kvs k) := .inr ⟨kvs, k, b, .inl e, rfl, eb, rfl⟩
theorem DPut.k {H : Hp} {a : Addr} {kvs : List (Key × V)} {k : Key} {v : V} (e : H a = some (.dK kvs)) (hl : kvs.length < sizeLine) : DPut H a (kV k) v (upd H a (.dK (putK kvs k v))) := .inl ⟨kvs, k, e, rfl, hl, rfl⟩
theorem DPut.t {H : Hp} {a b : Addr} {kvs : List (List TKey × V)} {k : List TKey} {v : V} (e : H a = some (.dT kvs)) (eb : H b = some (.tup (k.map tkV))) (hl : kvs.length < sizeLine) :
    DPut H a (.ref b) v (upd H a (.dT (putK kvs k v))) := .inr ⟨kvs, k, b, e, rfl, eb, hl, rfl⟩
section
variable {X : Cx} {pins : List (Addr × Obj)} {σ : St} {H : Hp} {s : Shared} {a : Addr} {y v : V} {u r : Value} {o : Option V} {A : Around} {E : Value → Shared → Prop}
theorem Inv.big (I : Inv X pins σ H s) : sysModules < s.heap.objs.size := by
  have h : mainGlobals < s.heap.objs.size := (I.mod.glob.keeps I.bk).lt
  exact Nat.lt_trans (by decide) h
theorem d_getItem {Q : Value → Shared → Prop} (hu : A.units + 1 < cLine) (I : Inv X pins σ H s) (g : DGet H a y (some v)) (ry : RelV y u) (h : ∀ w' s', Inv X pins σ H s' → RelV v w' → Q w' s') :
    wpAny (model X.prog X.w) A (getItem (.ref a) u) Q E s := by
  rcases g with ⟨kvs, k, e, ey, l⟩ | ⟨kvs, k, b, e, ey, eb, l⟩
  · subst ey
    obtain ⟨z, hd, vs, rel, dd⟩ := dk_rd I.hok e
    obtain ⟨w', hw, rw'⟩ := RelO.some_of (v := v) (o := valueAt vs k) (by rw [l]; exact rel.val k)
    exact wpAny_getItem_of (kV_is ry) dd.mapOf hw (h w' _ (I.tok _) rw')
  · subst ey
    cases (show u = Value.ref b from ry)
    obtain ⟨z, hd, xs, rel, dd⟩ := dt_rd I.hok e
    obtain ⟨w', hw, rw'⟩ := RelO.some_of (v := v) (o := (atKey xs k).map (·.2)) (by rw [l]; exact rel.val k)
    obtain ⟨p, hp, hp2⟩ := Option.map_eq_some_iff.mp hw
    refine wpAny_getItem_heap (tupleKind_room_in1 hu) (key_of I.hok eb) dd hp ?_
    rw [hp2]
    exact h w' _ (I.tok _) rw'
theorem d_in {Q : Value → Shared → Prop} (hu : A.units + 1 < cLine) (I : Inv X pins σ H s) (g : DGet H a y o) (ry : RelV y u) (h : ∀ s', Inv X pins σ H s' → Q (.bool o.isSome) s') :
    wpAny (model X.prog X.w) A (compareOp .In u (.ref a)) Q E s := by
  rcases g with ⟨kvs, k, e, ey, l⟩ | ⟨kvs, k, b, e, ey, eb, l⟩
  · subst ey
    obtain ⟨z, hd, vs, rel, dd⟩ := dk_rd I.hok e
    refine wpAny_in_of (kV_is ry) hd dd.mapOf ?_
    rw [← (rel.val k).isSome_eq, ← l]
    exact h _ (I.tok _)
  · subst ey
    cases (show u = Value.ref b from ry)
    obtain ⟨z, hd, xs, rel, dd⟩ := dt_rd I.hok e
    refine wpAny_in_heap (tupleKind_room_in1 hu) (key_of I.hok eb) hd dd ?_
    have q := (rel.val k).isSome_eq
    rw [Option.isSome_map] at q
    rw [← q, ← l]
    exact h _ (I.tok _)
theorem d_notIn {Q : Value → Shared → Prop} (hu : A.units + 1 < cLine) (I : Inv X pins σ H s) (g : DGet H a y o) (ry : RelV y u) (h : ∀ s', Inv X pins σ H s' → Q (.bool (!o.isSome)) s') :
    wpAny (model X.prog X.w) A (compareOp .NotIn u (.ref a)) Q E s := by
  rcases g with ⟨kvs, k, e, ey, l⟩ | ⟨kvs, k, b, e, ey, eb, l⟩
  · subst ey
    obtain ⟨z, hd, vs, rel, dd⟩ := dk_rd I.hok e
    refine wpAny_notIn_of (kV_is ry) hd dd.mapOf ?_
    rw [← (rel.val k).isSome_eq, ← l]
    exact h _ (I.tok _)
  · subst ey
    cases (show u = Value.ref b from ry)
    obtain ⟨z, hd, xs, rel, dd⟩ := dt_rd I.hok e
    refine wpAny_notIn_heap (tupleKind_room_in1 hu) (key_of I.hok eb) hd dd ?_
    have q := (rel.val k).isSome_eq
    rw [Option.isSome_map] at q
    rw [← q, ← l]
    exact h _ (I.tok _)
theorem d_write {h' : Heap} {t' : Nat} {ob : HO} (I : Inv X pins σ H s) (mu : Mut (H a)) (hs : Heap.SameBut a s.heap h') (he : ∃ q, h'.get? a = some q) (new : ObjOk X.prog X.w (upd H a ob) h' a ob) :
    Inv X pins σ (upd H a ob) { s with heap := h', toks := t' } :=
  I.write (x := a) (e := a) mu (.inl rfl) (fun b q hb z => (hs.2 b hb).trans z) he new
theorem dk_new {P : Program} {w : World} {H' : Hp} {h' : Heap} {kvs : List (Key × V)} {vs : List (Key × Value)} (z : kvs.length ≤ sizeLine) (hd : (a == sysModules) = false) (rel : KV kvs vs) (dd : h'.DictOf (mixKind P w) a vs) :
    ObjOk P w H' h' a (.dK kvs) := ⟨z, hd, vs, rel, dd⟩
theorem d_setItem {H' : Hp} {Q : Unit → Shared → Prop} (hu : A.units + 1 < cLine) (I : Inv X pins σ H s) (g : DPut H a y v H') (ry : RelV y u) (rv : RelV v r) (h : ∀ s', Inv X pins σ H' s' → Q () s') :
    wpAny (model X.prog X.w) A (setItem (.ref a) u r) Q E s := by
  rcases g with ⟨kvs, k, e, ey, l, eH⟩ | ⟨kvs, k, b, e, ey, eb, l, eH⟩
  · subst ey eH
    obtain ⟨z, hd, vs, rel, dd⟩ := dk_of I.hok e
    have hz : vs.length ≤ sizeLine := by rw [← rel.length]; exact z
    have hl : (putK kvs k v).length ≤ sizeLine := by have := length_putK kvs k v; omega
    refine wpAny_setItem_pairs (hsz := hz) (kV_is ry) dd fun h' dd' hs => h _ ?_
    have he : ∃ q, h'.get? a = some q := let ⟨q, _, _, hq, _⟩ := dd'; ⟨q, hq⟩
    exact d_write I (by rw [e]; exact True.intro) hs he (dk_new hl hd (rel.put k rv) dd')
  · subst ey eH
    cases (show u = Value.ref b from ry)
    obtain ⟨z, hd, xs, rel, dd⟩ := dt_of I.hok e
    have hz : xs.length ≤ sizeLine := by rw [← Paired.length rel]; exact z
    have hl : (putK kvs k v).length ≤ sizeLine := by have := length_putK kvs k v; omega
    refine wpAny_setItem_heap (hsz := hz) (tupleKind_room_in1 hu) (key_of I.hok eb) dd fun h' dd' hs => h _ ?_
    obtain ⟨q, es, ep, hq, h2, h3, h4, _, h5⟩ := dd'
    refine d_write I (by rw [e]; exact True.intro) hs ⟨q, hq⟩ ⟨hl, hd, _, (rel.put k eb rv).keeps fun c ys ec => ?_, q, es, ep, hq, h2, h3, h4, h5⟩
    rw [upd_ne (ne_of ec e (fun z => nomatch z))]
    exact ec
end
section
variable {X : Cx} {pins : List (Addr × Obj)} {σ : St} {H : Hp} {s : Shared} {a : Addr} {kvs : List (Key × V)} {k : Key} {u : Value} {A : Around} {E : Value → Shared → Prop}
end
def NoSl (i : Expr) : Prop := ∀ ov iv, subscripted i false ov iv = operate [ov, iv] (getItem ov iv)
theorem subD_of {prog : Program} {w : World} {A : Around} {E : Value → Shared → Prop} {s : Shared} {env : Env} {value slice : Expr} {pos : Pos} {T id : String} {Q : Value → Shared → Prop}
    (hl : typeLookup (.type T) "__getitem__" = pure (some (.builtin id))) (hs : NoSl slice)
    (h : wpAny (model prog w) A (eval value env) (fun o s₁ => wpAny (model prog w) A (eval slice env) (fun i s₂ => s₂.TypeIs o T ∧ wpAny (model prog w) A (getItem o i) Q E s₂) E s₁) E s) :
    wpAny (model prog w) A (eval (.Subscript value slice pos) env) Q E s := by
  refine Subscript_ (wpAny_mono h (fun o s₁ h₁ => wpAny_mono h₁ (fun i s₂ h₂ => ?_) fun _ _ x => x) fun _ _ x => x)
  obtain ⟨hT, h₂⟩ := h₂
  unfold subscriptTail
  refine wpAny_bind ?_
  rw [getitemInPython_of_ne hT.not_modules]
  refine wpAny_bind (wpAny_specialOf hT hl ?_)
  have fin : wpAny (model prog w) A (subscripted slice false o i) (fun r s₃ => wpAny (model prog w) A (letTemporaryGo value o r >>= fun _ => pure r) Q E s₃) E s₂ := by
    rw [hs o i]
    exact wpAny_operating (wpAny_mono h₂ (fun r s₃ h₃ => wpAny_bind (wpAny_letTemporaryGo (wpAny_pure h₃))) fun _ _ x => x)
  first
    | exact wpAny_pure (wpAny_bind fin)
    | exact wpAny_bind (wpAny_pure (wpAny_bind fin))
    | exact wpAny_bind fin
theorem dict_typeIs {X : Cx} {pins : List (Addr × Obj)} {σ : St} {H : Hp} {s : Shared} {a : Addr} {y : V} {o : Option V} (I : Inv X pins σ H s) (g : DGet H a y o) : s.TypeIs (.ref a) "dict" := by
  rcases g with ⟨kvs, k, e, _, _⟩ | ⟨kvs, k, b, e, _, _, _⟩
  · obtain ⟨_, _, vs, _, dd⟩ := dk_rd I.hok e
    exact dd.typeIs
  · obtain ⟨_, _, xs, _, dd⟩ := dt_rd I.hok e
    exact dd.typeIs
def tDGet (td ty : TE) : TE := fun σ H Q => td σ H fun x H1 => ty σ H1 fun y H2 => ∃ a v, x = .ref a ∧ DGet H2 a y (some v) ∧ Q v H2
def tDIn (ty td : TE) : TE := fun σ H Q => ty σ H fun y H1 => td σ H1 fun x H2 => ∃ a o, x = .ref a ∧ DGet H2 a y o ∧ Q (.bl o.isSome) H2
def tDNotIn (ty td : TE) : TE := fun σ H Q => ty σ H fun y H1 => td σ H1 fun x H2 => ∃ a o, x = .ref a ∧ DGet H2 a y o ∧ Q (.bl (!o.isSome)) H2
def sDPut (td ty tv : TE) : TS := fun D σ H => tv σ H fun v H1 => td σ H1 fun x H2 => ty σ H2 fun y H3 => ∃ a H4, x = .ref a ∧ DPut H3 a y v H4 ∧ D.nx σ H4
def sDAug (td ty tv : TE) (rd : V → V → Hp → VK → Prop) : TS := fun D σ H => td σ H fun x H1 => ty σ H1 fun y H2 => ∃ a v, x = .ref a ∧ DGet H2 a y (some v) ∧
  tv σ H2 fun y2 H3 => rd v y2 H3 fun z H4 => ∃ H5, DPut H4 a y z H5 ∧ D.nx σ H5
def sDDel (td ty : TE) : TS := fun D σ H => td σ H fun x H1 => ty σ H1 fun y H2 => ∃ a kvs k, x = .ref a ∧ H2 a = some (.dK kvs) ∧ y = kV k ∧ (valV kvs k).isSome = true ∧ D.nx σ (upd H2 a (.dK (dropK kvs k)))
section
variable {X : Cx} {o i e value : Expr} {pos pos' tpos : Pos} {td ty tv : TE}
theorem pe_dget (hu : X.A.units + 1 < cLine) (ho : PE X o td) (hi : PE X i ty) (hs : NoSl i) : PE X (.Subscript o i pos) (tDGet td ty) := by
  intro pins s σ H Q I h
  refine subD_of PySem.F.slot_dict_getitem.lookup hs (thn (ho pins s σ H _ I h) fun u s1 ⟨x, H1, I1, rx, q1⟩ => thn (hi pins s1 σ H1 _ I1 q1) fun iv s2 ⟨y, H2, I2, ry, a, v, ex, g, q2⟩ => ?_)
  subst ex
  obtain rfl : u = Value.ref a := rx
  exact ⟨dict_typeIs I2 g, d_getItem hu I2 g ry fun w' s3 I3 rw' => ⟨v, H2, I3, rw', q2⟩⟩
theorem pc_din (hu : X.A.units + 1 < cLine) (hi : PE X i ty) (ho : PE X o td) : PC X .In i o (tDIn ty td) := by
  intro pins s σ H Q I h
  refine thn (hi pins s σ H _ I h) fun iv s1 ⟨y, H1, I1, ry, q1⟩ => thn (ho pins s1 σ H1 _ I1 q1) fun u s2 ⟨x, H2, I2, rx, a, ov, ex, g, q2⟩ => ?_
  subst ex
  obtain rfl : u = Value.ref a := rx
  exact d_in hu I2 g ry fun s3 I3 => ⟨.bl ov.isSome, H2, I3, rfl, q2⟩
theorem pc_dnotin (hu : X.A.units + 1 < cLine) (hi : PE X i ty) (ho : PE X o td) : PC X .NotIn i o (tDNotIn ty td) := by
  intro pins s σ H Q I h
  refine thn (hi pins s σ H _ I h) fun iv s1 ⟨y, H1, I1, ry, q1⟩ => thn (ho pins s1 σ H1 _ I1 q1) fun u s2 ⟨x, H2, I2, rx, a, ov, ex, g, q2⟩ => ?_
  subst ex
  obtain rfl : u = Value.ref a := rx
  exact d_notIn hu I2 g ry fun s3 I3 => ⟨.bl (!ov.isSome), H2, I3, rfl, q2⟩
theorem ps_dput (hu : X.A.units + 1 < cLine) (ho : PE X o td) (hi : PE X i ty) (hv : PE X value tv) (hs : swapsWith value (some (.Subscript o i pos')) pos.line X.env = pure false) :
    PS X (.Assign [.Subscript o i pos'] value pos) (sDPut td ty tv) := by
  intro pins s σ H D I h
  refine wpAny_Assign_Subscript (thn (hv pins s σ H _ I h) fun r s1 ⟨v, H1, I1, rv, q1⟩ => thn (ho pins s1 σ H1 _ I1 q1) fun u s2 ⟨x, H2, I2, rx, q2⟩ => thn (hi pins s2 σ H2 _ I2 q2) fun iv s3 ⟨y, H3, I3, ry, a, H4, ex, g, q3⟩ => ?_) hs
  subst ex
  obtain rfl : u = Value.ref a := rx
  exact d_setItem hu I3 g ry rv fun s4 I4 => ⟨σ, H4, I4, q3⟩
end
theorem dk_empty {P : Program} {w : World} {H : Hp} (h : Heap) (hb : sysModules < h.objs.size) : ObjOk P w H (h.push { cls := .type "dict", data := .dict #[] }) h.objs.size (.dK []) :=
  ⟨Nat.zero_le _, beq_eq_false_iff_ne.mpr (Ne.symm (Nat.ne_of_lt hb)), [], .nil, Heap.DictOf.new h⟩
def tDNewK : TE := fun _ H Q => ∀ p, H p = none → Q (.ref p) (upd H p (.dK []))
def tDNewT : TE := fun _ H Q => ∀ p, H p = none → Q (.ref p) (upd H p (.dT []))
section
variable {X : Cx} {pos : Pos}
theorem pe_dnewK : PE X (.Dict [] [] pos) tDNewK := fun pins s σ H Q I h =>
  wpAny_Dict_empty ⟨.ref s.heap.objs.size, _, I.laid (a := s.heap.objs.size) (o := .dK []) (t' := s.toks) (fun _ _ q => Heap.get?_push_of_some _ q) (Nat.le_refl _) (dk_empty s.heap I.big), rfl, h _ (I.hok.fresh (Nat.le_refl _))⟩
end
def tPairs : List (TE × TE) → St → Hp → (List (V × V) → Hp → Prop) → Prop
  | [], _, H, Q => Q [] H
  | (tk, tv) :: r, σ, H, Q => tk σ H fun x H1 => tv σ H1 fun y H2 => tPairs r σ H2 fun ps H3 => Q ((x, y) :: ps) H3
abbrev VV : List (V × V) → List (Value × Value) → Prop := Paired fun p q => RelV p.1 q.1 ∧ RelV p.2 q.2
def PPs (X : Cx) (pos : Pos) (keys : List (Option Expr)) (values : List Expr) (trs : List (TE × TE)) : Prop :=
  ∀ (pins : List (Addr × Obj)) (s : Shared) (σ : St) (H : Hp) (Q : List (V × V) → Hp → Prop), Inv X pins σ H s → tPairs trs σ H Q →
    wpAny (model X.prog X.w) X.A (evalPairs (pairTrees keys values X.env pos)) (fun vs s' => ∃ ps H', Inv X pins σ H' s' ∧ VV ps vs ∧ Q ps H') X.xe s
def mergeK (kvs more : List (Key × V)) : List (Key × V) := more.foldl (fun acc kv => putK acc kv.1 kv.2) kvs
def tDisp (trs : List (TE × TE)) : TE := fun σ H Q => ∀ p, H p = none → tPairs trs σ (upd H p (.dK [])) fun ps H2 => H2 p = some (.dK []) ∧ ∃ kvs : List (Key × V), ps = kvs.map (fun kv => (kV kv.1, kv.2)) ∧ kvs.length ≤ 15 ∧ Q (.ref p) (upd H2 p (.dK (mergeK [] kvs)))
structure M1 (X : Cx) (o : Expr) (m : Str) (apos : Pos) (e : Expr) (cpos : Pos) : Prop where
  base : attributeBase o m X.env (eval o X.env) = eval o X.env
  few : ((backTo cpos (starEach [e] X.env)).all (fun x => !x.1) && (backToKw cpos (keywordEach [] X.env)).all (fun x => x.1.isSome)
    && decide (([e] : List Expr).length + ([] : List Keyword).length + (if ([] : List Keyword).isEmpty then 0 else 1) < 30)) = true
  line : (apos.endLine == cpos.line) = true
  trees : backTo cpos (starEach [e] X.env) = [(false, eval e X.env)]
structure M2 (X : Cx) (o : Expr) (m : Str) (apos : Pos) (e f : Expr) (cpos : Pos) : Prop where
  base : attributeBase o m X.env (eval o X.env) = eval o X.env
  few : ((backTo cpos (starEach [e, f] X.env)).all (fun x => !x.1) && (backToKw cpos (keywordEach [] X.env)).all (fun x => x.1.isSome)
    && decide (([e, f] : List Expr).length + ([] : List Keyword).length + (if ([] : List Keyword).isEmpty then 0 else 1) < 30)) = true
  line : (apos.endLine == cpos.line) = true
  trees : backTo cpos (starEach [e, f] X.env) = [(false, eval e X.env), (false, eval f X.env)]
def IsD (H : Hp) (a : Addr) : Prop := (∃ kvs, Rd H a (.dK kvs)) ∨ ∃ kvs, Rd H a (.dT kvs)
theorem isD_at {X : Cx} {pins : List (Addr × Obj)} {σ : St} {H : Hp} {s : Shared} {a : Addr} (I : Inv X pins σ H s) (d : IsD H a) :
    s.TypeIs (.ref a) "dict" ∧ (∀ b, Value.ref a = .ref b → ∃ ob, s.heap.get? b = some ob ∧ ob.dict = none) ∧ (a == sysModules) = false := by
  rcases d with ⟨kvs, e⟩ | ⟨kvs, e⟩
  · obtain ⟨_, hd, vs, _, dd⟩ := dk_rd I.hok e
    refine ⟨dd.typeIs, fun b q => ?_, hd⟩
    cases q
    obtain ⟨ob, _, _, h1, h2, _⟩ := dd
    exact ⟨ob, h1, h2.2.1⟩
  · obtain ⟨_, hd, xs, _, dd⟩ := dt_rd I.hok e
    refine ⟨dd.typeIs, fun b q => ?_, hd⟩
    cases q
    obtain ⟨ob, _, _, h1, h2, _⟩ := dd
    exact ⟨ob, h1, h2.2.1⟩
section
variable {X : Cx} {pins : List (Addr × Obj)} {σ : St} {H : Hp} {s : Shared} {a : Addr} {y d : V} {u r : Value} {o : Option V} {A : Around} {E : Value → Shared → Prop}
theorem d_get2 {Q : Value → Shared → Prop} (hu : A.units + 1 < cLine) (I : Inv X pins σ H s) (g : DGet H a y o) (ry : RelV y u) (rd : RelV d r) (h : ∀ w' s', Inv X pins σ H s' → RelV (o.getD d) w' → Q w' s') :
    wpAny (model X.prog X.w) A (call (.builtin "dict.get") [.ref a, u, r]) Q E s := by
  rcases g with ⟨kvs, k, e, ey, l⟩ | ⟨kvs, k, b, e, ey, eb, l⟩
  · subst ey
    obtain ⟨z, hd, vs, rel, dd⟩ := dk_rd I.hok e
    refine call_meetsIn PySem.F.slot_dict_get dd.typeIs PySem.F.entry_dict_get (PySem.F.args_dict_get_3 _ _ _) (meets_dict_get_default (mixKind X.prog X.w) a (kV_is ry) hd r) ⟨_, dd.mapOf, h _ _ (I.tok _) ?_⟩
    rw [l]
    exact (rel.val k).getD rd
  · subst ey
    cases (show u = Value.ref b from ry)
    obtain ⟨z, hd, xs, rel, dd⟩ := dt_rd I.hok e
    refine call_meetsIn PySem.F.slot_dict_get dd.typeIs PySem.F.entry_dict_get (PySem.F.args_dict_get_3 _ _ _) (meetsH_dict_get_default (tupleKind (tkKind X.prog X.w)) a b hd r) ⟨tupleKind_room_in1 hu, k, xs, key_of I.hok eb, dd, h _ _ (I.tok _) ?_⟩
    rw [l]
    exact (rel.val k).getD rd
end
def tDGet1 (td ty : TE) : TE := fun σ H Q => td σ H fun x H1 => ∃ a, x = .ref a ∧ IsD H1 a ∧ ty σ H1 fun y H2 => ∃ o, DGet H2 a y o ∧ Q (o.getD .non) H2
def tDGet2 (td ty tx : TE) : TE := fun σ H Q => td σ H fun x H1 => ∃ a, x = .ref a ∧ IsD H1 a ∧ ty σ H1 fun y H2 => tx σ H2 fun z H3 => ∃ o, DGet H3 a y o ∧ Q (o.getD z) H3
def tDPop1 (td ty : TE) : TE := fun σ H Q => td σ H fun x H1 => ∃ a, x = .ref a ∧ IsD H1 a ∧ ty σ H1 fun y H2 => ∃ kvs k v, H2 a = some (.dK kvs) ∧ y = kV k ∧ valV kvs k = some v ∧ Q v (upd H2 a (.dK (dropK kvs k)))
def tDPop2 (td ty tx : TE) : TE := fun σ H Q => td σ H fun x H1 => ∃ a, x = .ref a ∧ IsD H1 a ∧ ty σ H1 fun y H2 => tx σ H2 fun z H3 => ∃ kvs k, H3 a = some (.dK kvs) ∧ y = kV k ∧
  (∀ v, valV kvs k = some v → Q v (upd H3 a (.dK (dropK kvs k)))) ∧ (valV kvs k = none → Q z H3)
section
variable {X : Cx} {o e f : Expr} {apos cpos : Pos} {td ty tx : TE}
theorem pe_dget2 (hu : X.A.units + 1 < cLine) (ho : PE X o td) (he : PE X e ty) (hf : PE X f tx) (m : M2 X o "get" apos e f cpos) : PE X (.Call (.Attribute o "get" apos) [e, f] [] cpos) (tDGet2 td ty tx) := by
  intro pins s σ H Q I h
  refine wpAny_Call_method m.base m.few m.line PySem.F.plainAttrs_dict PySem.F.slot_dict_get PySem.F.type_dict_get (thn (ho pins s σ H _ I h) fun u s1 ⟨x, H1, I1, rx, a, ex, d, q1⟩ => ?_)
  subst ex
  obtain rfl : u = Value.ref a := rx
  obtain ⟨t1, t2, _⟩ := isD_at I1 d
  refine ⟨t1, t2, ?_⟩
  rw [m.trees]
  refine Calls.callWith_builtin rfl (Calls.evalArgs_plain (Calls.spliced_cons (thn (he pins s1 σ H1 _ I1 q1) fun iv s2 ⟨y, H2, I2, ry, q2⟩ =>
    Calls.spliced_cons (thn (hf pins s2 σ H2 _ I2 q2) fun fv s3 ⟨z, H3, I3, rz, ov, g, q3⟩ => Calls.spliced_nil ?_))))
  exact d_get2 hu I3 g ry rz fun w' s4 I4 rw' => ⟨_, H3, I4, rw', q3⟩
end
section
variable {X : Cx} {pins : List (Addr × Obj)} {σ : St} {H : Hp} {s : Shared} {a : Addr} {kvs : List (Key × V)} {A : Around} {E : Value → Shared → Prop}
end
section
variable {X : Cx} {pins : List (Addr × Obj)} {σ : St} {H : Hp} {s : Shared} {a : Addr} {y : V} {u : Value} {A : Around} {E : Value → Shared → Prop}
end
end L2
namespace Att
open PySem PySem.W PySem.Calls PyProof.Rows
theorem ints_of_wellAll {P : Params} {h : Heap} : ∀ (ns : List Int) (vs : List Value), WellAll P h vs (ns.map WData.int) → IntsAre vs ns := by
  intro ns
  induction ns with
  | nil =>
    intro vs w
    rw [List.map_nil] at w
    cases w
    exact .nil
  | cons n ns ih =>
    intro vs w
    rw [List.map_cons] at w
    cases w with
    | cons a b =>
      cases a
      exact .cons _ _ (ih _ b)
theorem script_of {l : OpenLaw} {n : Nat} (hn : l.most = some n) {P : Params} {h : Heap} {args : List WData} {vals : List Value}
    (hpre : l.row.toRowW.claim.pre args = true) (hwl : WellAll P h vals args) :
    ∃ a vs ns, vals = [Value.ref a] ∧ args = [WData.list (ns.map WData.int)] ∧ h.get? a = some { cls := .type "list", data := .seq vs.toArray } ∧ IntsAre vs ns ∧ ns.length ≤ n := by
  have hsh : WShape.hasAll [] args [.list .int] = true := (pre_splitW hpre).1
  have hc : l.pre.holds [] { args := args } = true := (pre_splitW hpre).2
  obtain ⟨d, r, rfl, h1, h2⟩ := hasAllW_cons hsh
  obtain rfl := hasAllW_nil h2
  obtain ⟨xs, rfl, h3⟩ := hasW_list h1
  obtain ⟨ns, rfl⟩ := items_int h3
  have hlen : ns.length ≤ n := by
    unfold OpenLaw.pre at hc
    have h4 : (WTm.not (.lt (.lit (.int (n : Int))) (.len (.arg 0)))).holds [] { args := [.list (ns.map .int)] } = true := by
      have h4 := (holds_andW hc).1
      rw [hn] at h4
      exact h4
    have h5 := condW_of h4 (w_not (w_lt w_lit (w_len_list (w_arg rfl))))
    rw [List.length_map] at h5
    refine Nat.le_of_not_lt fun q => ?_
    have q' : (n : Int) < ((ns.length : Nat) : Int) := by omega
    first
      | (rw [decide_eq_true q'] at h5; exact absurd h5 (by decide))
      | (simp at h5; omega)
  cases hwl with
  | cons w1 w2 =>
    cases w2
    cases w1 with
    | list ho hall => exact ⟨_, _, ns, rfl, rfl, ho, ints_of_wellAll ns _ hall, hlen⟩
theorem post_true (l : OpenLaw) (args : List WData) : l.row.toRowW.claim.post args (.bool true) args = true :=
  postW_of (r := l.row.toRowW) (X := (true == true))
    (show WShape.has [] (.bool true) .bool = true by first | rfl | decide | simp [WShape.has, WShape.arms, WShape.armsAll])
    (show (WTm.eq .res (.lit (.bool true))).value [] { args := args, res := some (.bool true), after := args } = some (.bool (true == true)) from w_eq_bool (w_res rfl) w_lit) rfl
theorem attach_call {l : OpenLaw} {n : Nat} {q : Program} {loose : List Str} {XP : (Str → Option Value) → Heap → Prop} {YP : World → Heap → Prop} {d : DefRec}
    (hn : l.most = some n) (hdf : d.params.defaults = [])
    (call : ∀ (w : World) (s₀ s₁ : Shared) (mg mb : Str → Option Value) (fa : Addr) (o : Obj) (pm cd doc : Value) (a : Addr) (vs : List Value) (ns : List Int),
      Ground q loose [] XP w s₀ mg mb s₁.heap → YP w s₁.heap →
      s₁.heap.get? fa = some o → o.data = .func (docDef d.name d.params d.body d.scope pm cd doc) → s₁.heap.CodeRec cd d.name → mg d.name = some (.ref fa) →
      s₁.heap.get? a = some { cls := .type "list", data := .seq vs.toArray } → IntsAre vs ns → ns.length ≤ n → s₁.gens = #[] →
      codeAny (model l.prog w) callerA (.call (.ref fa) ⟨[.ref a], []⟩) (fun r s' => r = .ok (.ret (.bool true)) ∧ OldK s₁.heap s'.heap ∧ s'.os = s₁.os ∧ AllBare s'.gens) s₁) :
    WalkO q loose XP YP l.row.toRowW d [] (fun f vs => PySem.call f vs) := by
  intro w s₀ s₁ mg mb G Y fa o pm cd doc dV kV ho hd hcd hD hmg hg args vals as hpre hlay hrd hwl hlo
  obtain rfl : dV = .none := Dflts.none hD hdf
  obtain rfl : kV = .none := Dflts.noKw hD
  obtain ⟨a, vs, ns, rfl, rfl, hobj, hints, hlen⟩ := script_of hn hpre hwl
  refine enter_call (codeAny_mono (call w s₀ s₁ mg mb fa o pm cd doc a vs ns G Y ho (fd_plain hd) hcd hmg hobj hints hlen hg) fun r s' hq => ?_)
  obtain ⟨rfl, h2, h3, h4⟩ := hq
  exact ⟨.inl ⟨.bool true, .bool true, [], rfl, fun _ => rfl, .bool true, post_true l _, fun _ => ⟨List.Pairwise.nil, fun _ hm => (nomatch hm)⟩⟩, h2, h3, h4⟩
section
variable {prog : Program} {w : World} {A : Around} {E : Value → Shared → Prop} {s : Shared} {K : Frag}
def noObjs (h : Heap) : Heap := { h with objs := #[] }
def ledger (h : Heap) (L d : Addr) : List (Addr × Obj) := (List.range h.objs.size).filterMap fun a => if a = L ∨ a = d then none else (h.get? a).map fun o => (a, o)
end
end Att
namespace L2
open PySem PySem.Spec PyProof.Rows
theorem vals_ints : ∀ {vs : List Value} {ns : List Int}, IntsAre vs ns → Vals (ns.map V.int) vs
  | _, _, .nil => .nil
  | _, _, .cons n t h => .cons ⟨t, rfl⟩ (vals_ints h)
def Only (H : Hp) : Prop := ∀ b, H b = none ∨ ∃ o xs, H b = some (.frz o (.lst xs))
theorem law_call {P : Program} {w : World} {K : PySem.W.Frag} {mg mb : Str → Option Value} {CX : CXT} {k : Nat} {fa a : Addr} {fd : FuncData} {x : Str} {sp : Sp} {s₁ : Shared} {vs : List Value} {ns : List Int}
    (KX : K.In s₁.heap) (hns : s₁.heap.Ns mainGlobals mg) (hb : s₁.heap.Ns builtinsNs mb) (hbb : ∀ x : Str, x ≠ "__name__" → mb x = bootBuiltins x) (hlim : s₁.heap.NoLimit) (hg : s₁.gens = #[])
    (ha : s₁.heap.get? a = some { cls := .type "list", data := .seq vs.toArray }) (hi : IntsAre vs ns) (hl : ns.length ≤ sizeLine) (hr : Room k callerA)
    (F : ∀ base : Heap, K.In base → base.Ns mainGlobals mg → FnOk P w K mg base CX k fa fd [x] sp) (hbind : ∀ (s : Shared) (u : Value), BindsTo s fd ⟨[u], []⟩ [(x, u)])
    (hsp : ∀ H : Hp, Only H → SqL K H a (ns.map V.int) → sp [.ref a] H (fun v _ => v = .bl true) fun _ _ _ => False)
    (hCX : ∀ H e s', CX [] H s₁ (fun _ _ _ => False) e s' → False) :
    codeAny (model P w) callerA (.call (.ref fa) ⟨[.ref a], []⟩) (fun r s' => r = .ok (.ret (.bool true)) ∧ OldK s₁.heap s'.heap ∧ s'.os = s₁.os ∧ AllBare s'.gens) s₁ := by
  have rv := vals_ints hi
  have lenV := hi.length
  have core : ∀ H : Hp, Only H → SqL K H a (ns.map V.int) → HOk P w H s₁.heap → (∀ b, H b ≠ none → b = a) → (H a ≠ none → K.lookup a = none) →
      codeAny (model P w) callerA (.call (.ref fa) ⟨[.ref a], []⟩) (fun r s' => r = .ok (.ret (.bool true)) ∧ OldK s₁.heap s'.heap ∧ s'.os = s₁.os ∧ AllBare s'.gens) s₁ := by
    intro H hO hS hok hA hK
    have base_of : ∀ {b : Addr} {o : Obj}, s₁.heap.get? b = some o → H b = none → (hidT s₁.heap H).get? b = some o := fun e n => hidT_get e n
    have noA : ∀ {b : Addr} {o : Obj} {es : Array DictEntry} {ep : Nat}, s₁.heap.get? b = some o → o.data = .dict es ep → H b = none := fun {b o es ep} e d => by
      cases q : H b with
      | none => rfl
      | some u =>
        have e' : b = a := hA b (by rw [q]; simp)
        subst e'
        rw [ha] at e; cases e
        have d' : Data.seq vs.toArray _ = Data.dict es ep := d
        cases d'
    have nsK : ∀ {b : Addr} {m : Str → Option Value}, s₁.heap.Ns b m → (hidT s₁.heap H).Ns b m := fun {b m} ⟨o, es, ep, e, d, r⟩ => ⟨o, es, ep, base_of e (noA e d), d, r⟩
    have hKb : K.In (hidT s₁.heap H) := fun b o e => base_of (KX b o e) (by
      cases q : H b with
      | none => rfl
      | some u =>
        have e' : b = a := hA b (by rw [q]; simp)
        subst e'
        rw [hK (by rw [q]; simp)] at e; cases e)
    have hM : Mod K mg (hidT s₁.heap H) := ⟨hKb, nsK hns, ⟨mb, nsK hb, hbb⟩, let ⟨mc, h1, h2⟩ := hlim; ⟨mc, nsK h1, h2⟩⟩
    have e0 : Env0 P w K mg (hidT s₁.heap H) callerA [] s₁ H := ⟨rfl, hM, fun b o e => of_hidT e, Nat.le_of_eq (hidT_size _ _), trivial, fun b hb => absurd (show b ∈ ([] : List Addr) from hb) (by simp), hok, .of_eq hg⟩
    refine codeAny_mono ((F _ hKb (nsK hns)).run callerA [] s₁ H ⟨[.ref a], []⟩ [.ref a] [.ref a] _ _ hr e0 (hbind s₁ (.ref a)) (.cons rfl .nil) (hsp H hO hS)) fun r s' h => ?_
    cases r with
    | error e => exact (hCX H e s' h).elim
    | ok fl =>
      cases fl with
      | next => exact False.elim h
      | brk => exact False.elim h
      | cont => exact False.elim h
      | ret u =>
        obtain ⟨v, H', os, bare, un, hok', r', q⟩ := h
        have q' : v = .bl true := q
        subst q'
        obtain rfl : u = Value.bool true := r'
        refine ⟨rfl, OldK.of_keep fun b o e => ?_, os, bare⟩
        cases q : H b with
        | none => exact un.keep b o e q (by intro z; exact absurd (show b ∈ ([] : List Addr) from z) (by simp)) (by simp)
        | some u =>
          rcases hO b with z | ⟨ob, xs, z⟩
          · rw [q] at z; cases z
          · have z2 := un.frzs b ob _ z
            obtain ⟨e1, _⟩ := hok b _ z
            obtain ⟨e2, _⟩ := hok' b _ z2
            rw [e] at e1; cases e1
            exact e2
  cases hk : K.lookup a with
  | some o =>
    have e := KX a o hk
    rw [ha] at e
    cases e
    refine core (fun _ => none) (fun _ => .inl rfl) (.inr ⟨_, vs.toArray, _, hk, rfl, rfl, rfl, by rw [List.size_toArray, lenV]; exact hl, by simpa using rv⟩) (fun b u z => by have z' : (none : Option HO) = some u := z; cases z') (fun b z => absurd rfl z) fun z => absurd rfl z
  | none =>
    refine core (fun b => if b = a then some (.frz { cls := .type "list", data := .seq vs.toArray } (.lst (ns.map V.int))) else none) (fun b => ?_) (.inl (.inr ⟨{ cls := .type "list", data := .seq vs.toArray }, if_pos rfl⟩)) (fun b u z => ?_) (fun b z => ?_) fun _ => hk
    · by_cases hb : b = a
      · exact .inr ⟨_, _, if_pos hb⟩
      · exact .inl (if_neg hb)
    · by_cases hb : b = a
      · have z' := (if_pos hb).symm.trans z
        cases z'
        subst hb
        exact ⟨ha, by rw [List.length_map]; exact hl, vs, _, rv, ha⟩
      · have z' := (if_neg hb).symm.trans z
        cases z'
    · by_cases hb : b = a
      · exact hb
      · exact absurd (if_neg hb) z
end L2
namespace L2
open PySem PySem.Spec PyProof.Rows
abbrev KOf {K : PySem.W.Frag} {h : Heap} (_ : K.In h) : PySem.W.Frag := K
theorem walk_of {l : PySem.W.OpenLaw} {n k : Nat} {q : Program} {loose : List Str} {XP : (Str → Option Value) → Heap → Prop} {YP : World → Heap → Prop} {d : DefRec} {K : Params → PySem.W.Frag} {CX : World → CXT} {sp : World → Sp} {x : Str}
    (hn : l.most = some n) (hn2 : n ≤ sizeLine) (hdf : d.params.defaults = []) (hr : Room k callerA)
    (hY : ∀ (w : World) (h : Heap), YP w h → (K w.params).In h)
    (F : ∀ (w : World) (mg : Str → Option Value) (fa : Addr) (h : Heap), (K w.params).In h → h.Ns mainGlobals mg → mg d.name = some (.ref fa) →
      ∃ fd : FuncData, (∀ (s : Shared) (u : Value), BindsTo s fd ⟨[u], []⟩ [(x, u)]) ∧
        ∀ base : Heap, (K w.params).In base → base.Ns mainGlobals mg → FnOk l.prog w (K w.params) mg base (CX w) k fa fd [x] (sp w))
    (hsp : ∀ (w : World) (H : Hp) (a : Addr) (ns : List Int), ns.length ≤ n → Only H → SqL (K w.params) H a (ns.map V.int) → sp w [.ref a] H (fun v _ => v = .bl true) fun _ _ _ => False)
    (hCX : ∀ (w : World) (H : Hp) (s : Shared) (e : Value) (s' : Shared), CX w [] H s (fun _ _ _ => False) e s' → False) :
    PySem.W.WalkO q loose XP YP l.row.toRowW d [] (fun f vs => PySem.call f vs) := by
  refine Att.attach_call hn hdf fun w s₀ s₁ mg mb fa o pm cd doc a vs ns G Y ho hd hcd hmg hobj hints hlen hg => ?_
  have KX := hY w _ Y
  obtain ⟨fd, hb, hF⟩ := F w mg fa _ KX G.T.g hmg
  exact law_call KX G.T.g G.T.b G.T.builtins G.T.nolimit hg hobj hints (Nat.le_trans hlen hn2) hr hF hb (fun H hO hS => hsp w H a ns hlen hO hS) fun H e s' => hCX w H s₁ e s'
end L2
namespace L2
open PySem PySem.Spec PyProof.Rows
abbrev CX0 : CXT := fun _ _ _ _ _ _ => False
abbrev E0 : XK := fun _ _ _ => False
theorem pass0 {X : Cx} : Passes CX0 X E0 := fun _ _ _ _ _ _ _ h => h.elim
structure Fun (K : PySem.W.Frag) (x qual : Str) (st : Stmt) (f : Addr) (fd : FuncData) : Prop where
  ex : ∃ (oc : Value) (od : Option Addr) (kV doc pm : Value) (an : Option Addr) (cdv ct : Value) (osl : Array (Option Value)),
    fd = PySem.W.fnOf x qual (defArgs st) (defBody st) (defScope st) .none kV doc pm an cdv ct ∧ K.lookup f = some ⟨oc, od, .func fd, osl⟩ ∧ PySem.W.codeIn K cdv qual = true
  kp : PySem.W.keepIn K (.ref f) = true
section
variable {P : Program} {w : World} {K : PySem.W.Frag} {mg : Str → Option Value} {base : Heap}
theorem Fun.ok {x qual : Str} {st : Stmt} {f : Addr} {fd : FuncData} {N ps : List Str} {k : Nat} {sp : Sp} (F : Fun K x qual st f fd) (S : FnScope N ps (defScope st)) (len : ∀ vs H Q E, sp vs H Q E → vs.length = ps.length)
    (hbody : ∀ (cdv : Value) (A : Around) (outer : List Env) (s : Shared) (H : Hp) (vs : List V) (Q : VK) (E : XK), Room k (A.deeper (envOfC qual (defScope st) s.heap.objs.size f cdv)) → sp vs H Q E →
      ∃ t, PSs (cxOf CX0 P w K mg base N qual (defScope st) f cdv A outer s H E).nox (defBody st) t ∧ t { nx := fun _ H' => Q .non H', rt := Q } (start N vs) H) : FnOk P w K mg base CX0 (k + 1) f fd ps sp := by
  obtain ⟨oc, od, kV, doc, pm, an, cdv, ct, osl, rfl, lk, hcd⟩ := F.ex
  refine fn_of lk hcd S len fun A outer s H vs Q E hr hsp => ?_
  obtain ⟨t, h, q⟩ := hbody cdv A outer s H vs Q E hr hsp
  exact ⟨t, h.nox, q⟩
theorem Fun.binds {x qual : Str} {st : Stmt} {f : Addr} {fd : FuncData} {ps : List Str} (F : Fun K x qual st f fd)
    (h : ∀ (kV doc pm : Value) (an : Option Addr) (cdv ct : Value) (us : List Value), us.length = ps.length → bindArgs (PySem.W.fnOf x qual (defArgs st) (defBody st) (defScope st) .none kV doc pm an cdv ct) ⟨us, []⟩ = pure (ps.zip us)) : Binds K fd ps [] := by
  obtain ⟨oc, od, kV, doc, pm, an, cdv, ct, osl, rfl, lk, hcd⟩ := F.ex
  exact .all (h kV doc pm an cdv ct)
theorem fun_mk {x qual : Str} {st : Stmt} {f : Addr} {oc : Value} {od an : Option Addr} {osl : Array (Option Value)} {kV doc pm cdv ct : Value} (l : K.lookup f = some ⟨oc, od, .func (PySem.W.fnOf x qual (defArgs st) (defBody st) (defScope st) .none kV doc pm an cdv ct), osl⟩)
    (c : PySem.W.codeIn K cdv qual = true) (k : PySem.W.keepIn K (.ref f) = true) : Fun K x qual st f (PySem.W.fnOf x qual (defArgs st) (defBody st) (defScope st) .none kV doc pm an cdv ct) := ⟨⟨oc, od, kV, doc, pm, an, cdv, ct, osl, rfl, l, c⟩, k⟩
end
theorem hu_of {A : Around} {k : Nat} (hr : Room k A) : A.units + 1 < cLine := Nat.lt_of_le_of_lt (Nat.add_le_add_left (by decide : 1 ≤ 64) _) hr.units
section
variable {X : Cx}
theorem pv (i : Nat) {x : Str} {pos : Pos} (hN : X.N[i]? = some x := by rfl) (hv : Vis X.env.scope x := by first | exact Or.inl rfl | exact Or.inr (Or.inl rfl) | exact Or.inr (Or.inr rfl)) (hd : (x == ("__debug__" : Str)) = false := by decide)
    (hcd : (x == ("__classdict__" : Str)) = false := by decide) : PE X (.Name x pos) (tVar i) := pe_var hN hv hd hcd
end
theorem iteF {A B : Prop} (h : B) : if false = true then A else B := by
  rw [if_neg Bool.false_ne_true]
  exact h
theorem iteT {A B : Prop} (h : A) : if true = true then A else B := by
  rw [if_pos rfl]
  exact h
theorem iteNS {c A B : Prop} [Decidable c] (hc : c) (h : B) : if (!decide c) = true then A else B := by
  rw [decide_eq_true hc]
  exact iteF h
def Same (H H' : Hp) : Prop := ∀ b o, H b = some o → H' b = some o
theorem Same.refl (H : Hp) : Same H H := fun _ _ h => h
theorem Same.trans {H H1 H2 : Hp} (a : Same H H1) (b : Same H1 H2) : Same H H2 := fun c o h => b c o (a c o h)
theorem Same.free {H H' : Hp} (e : Same H H') {l : Addr} (h : H' l = Option.none) : H l = Option.none := by
  cases q : H l with
  | none => rfl
  | some o =>
    rw [e l o q] at h
    cases h
theorem Same.seq {K : PySem.W.Frag} {H H' : Hp} {a : Addr} {xs : List V} (e : Same H H') (h : SqL K H a xs) : SqL K H' a xs := by
  rcases h with (h | ⟨o, h⟩) | h
  · exact .inl (.inl (e _ _ h))
  · exact .inl (.inr ⟨o, e _ _ h⟩)
  · exact .inr h
section
variable {κ : Type} [DecidableEq κ]
end
end L2
end
section
set_option linter.all false
namespace L2
open PySem
section
variable {env : Env}
theorem clos_go : ∀ (l : List (Str × NameKind)) (cs : List (Str × Addr)), (∀ x ∈ l, x.2 = .free → ∃ c, env.cells.lookup x.1 = some c) → (∀ x c, cs.lookup x = some c → env.cells.lookup x = some c) →
    ∃ cl, (forIn l cs (fun x r => if (x.2 == NameKind.free) = true then do let a ← cellOf env x.1; pure (ForInStep.yield ((x.1, a) :: r)) else pure (ForInStep.yield r)) : Sem (List (Str × Addr))) = pure cl ∧
      (∀ x c, cl.lookup x = some c → env.cells.lookup x = some c) ∧ ∀ x, ((x, NameKind.free) ∈ l ∨ ∃ c, cs.lookup x = some c) → ∃ c, cl.lookup x = some c
  | [], cs, _, hs => ⟨cs, rfl, hs, fun x h => h.elim (fun z => by cases z) id⟩
  | (n, k) :: l, cs, h, hs => by
    have hl : ∀ x ∈ l, x.2 = .free → ∃ c, env.cells.lookup x.1 = some c := fun x hx => h x (List.mem_cons_of_mem _ hx)
    rw [List.forIn_cons]
    by_cases hk : k = .free
    · subst hk
      obtain ⟨c, hc⟩ := h (n, .free) (List.mem_cons_self ..) rfl
      obtain ⟨cl, e, h1, h2⟩ := clos_go l ((n, c) :: cs) hl fun x c' z => by
        by_cases hx : x = n
        · subst hx
          rw [List.lookup_cons_self] at z
          cases z; exact hc
        · have hx' : (x == n) = false := by simpa using hx
          rw [List.lookup_cons, hx'] at z
          exact hs x c' z
      refine ⟨cl, ?_, h1, fun x hx => h2 x ?_⟩
      · have e0 : cellOf env n = pure c := by unfold cellOf; rw [hc]
        simp only [beq_self_eq_true, if_true, e0, pure_bind]
        exact e
      · rcases hx with hx | ⟨c', hx⟩
        · rcases List.mem_cons.mp hx with hx | hx
          · have : x = n := (Prod.mk.inj hx).1
            subst this
            exact .inr ⟨c, List.lookup_cons_self⟩
          · exact .inl hx
        · by_cases hxn : x = n
          · subst hxn; exact .inr ⟨c, List.lookup_cons_self⟩
          · have hx' : (x == n) = false := by simpa using hxn
            exact .inr ⟨c', by rw [List.lookup_cons, hx']; exact hx⟩
    · obtain ⟨cl, e, h1, h2⟩ := clos_go l cs hl hs
      have hb : (k == NameKind.free) = false := by simpa using hk
      refine ⟨cl, ?_, h1, fun x hx => h2 x ?_⟩
      · simp only [hb, Bool.false_eq_true, if_false, pure_bind]
        exact e
      · rcases hx with hx | hx
        · rcases List.mem_cons.mp hx with hx | hx
          · exact absurd (Prod.mk.inj hx).2.symm hk
          · exact .inl hx
        · exact .inr hx
theorem closure_of {scope : Scope} (h : ∀ x ∈ scope.names, x.2 = .free → ∃ c, env.cells.lookup x.1 = some c) :
    ∃ cl, closureFor scope env = pure cl ∧ (∀ x c, cl.lookup x = some c → env.cells.lookup x = some c) ∧ ∀ x, (x, NameKind.free) ∈ scope.names → ∃ c, cl.lookup x = some c := by
  obtain ⟨cl, e, h1, h2⟩ := clos_go scope.names [] h (fun x c z => by simp at z)
  refine ⟨cl, ?_, h1, fun x hx => h2 x (.inl hx)⟩
  unfold closureFor
  dsimp only
  refine Eq.trans (congrArg (· >>= pure) ?_) (Eq.trans (congrArg (· >>= pure) e) (by simp))
  rfl
end
section
variable {prog : Program} {w : World} {A : Around} {R : Result → Shared → Prop} {s : Shared}
theorem loop_comp {elt target iter : Expr} {ifs : List Expr} {scope : Scope} {pos : Pos} {it acc : Value} {env : Env} (J : Nat → Shared → Prop)
    (turn : ∀ n s, J n s → wpAny (model prog w) A (pyNext it) (fun r s1 => match r with
      | none => R (.ok .next) s1
      | some v => wpAny (model prog w) A (letOwnedTupleGo target it v) (fun _ s2 => wpAny (model prog w) A (assign target env v) (fun _ s3 =>
          wpAny (model prog w) A (forIn ifs true fun c r => if r = true then do let ok ← isTrue c env (eval c env); pure (ForInStep.yield ok) else pure (ForInStep.yield r)) (fun ok s4 =>
            if ok = true then wpAny (model prog w) A (eval elt env) (fun x s5 => wpAny (model prog w) A (call (.builtin "list.append") [acc, x]) (fun _ s6 => ∃ m, m < n ∧ J m s6) (fun _ _ => False) s5) (fun _ _ => False) s4
            else ∃ m, m < n ∧ J m s4) (fun _ _ => False) s3) (fun _ _ => False) s2) (fun _ _ => False) s1) (fun _ _ => False) s)
    (n : Nat) (h : J n s) : codeAny (model prog w) A (.compLoop (.ListComp elt [⟨target, iter, ifs, 0⟩] scope pos) 0 it acc env) R s := by
  refine codeAny_loop rfl J (fun n s hJ => ?_) n h
  show wpAny _ A ((compTurn (.ListComp elt [⟨target, iter, ifs, 0⟩] scope pos) 0 it acc env).onRaise (fun x => noteFrame x env >>= fun _ => theTreesLotGoes x)) _ _ s
  refine wpAny_noted ?_
  have no : ∀ {α : Type} {t : Sem α} {Q : α → Shared → Prop} {E : Value → Shared → Prop} {s : Shared}, wpAny (model prog w) A t Q (fun _ _ => False) s → wpAny (model prog w) A t Q E s := fun h => wpAny_mono h (fun _ _ q => q) fun _ _ f => f.elim
  rw [compTurn_list]
  refine wpAny_bind (wpAny_standAt (wpAny_bind (no (wpAny_mono (turn n s hJ) (fun r s1 h1 => ?_) fun _ _ f => f))))
  cases r with
  | none => exact wpAny_pure h1
  | some v =>
    refine wpAny_bind (no (wpAny_mono h1 (fun _ s2 h2 => ?_) fun _ _ f => f))
    refine wpAny_bind (no (wpAny_mono h2 (fun _ s3 h3 => ?_) fun _ _ f => f))
    refine wpAny_bind (no (wpAny_mono h3 (fun ok s4 h4 => ?_) fun _ _ f => f))
    cases ok with
    | false => exact wpAny_pure ⟨rfl, h4⟩
    | true =>
      refine wpAny_bind (wpAny_bind (no (wpAny_mono h4 (fun x s5 h5 => ?_) fun _ _ f => f)))
      exact wpAny_bind (no (wpAny_mono h5 (fun _ s6 h6 => wpAny_pure (wpAny_pure ⟨rfl, h6⟩)) fun _ _ f => f))
end
end L2
end
section
open PySem PySem.W PyProof.Rows
namespace MyS
def ev {α : Type} (lt : Nat → Nat → Bool) : KasT α → α
  | .ret a => a
  | .ask i j k => ev lt (k (lt i j))
def okT {α : Type} (lt : Nat → Nat → Bool) (N : Nat) : KasT α → Prop
  | .ret _ => True
  | .ask i j k => i < N ∧ j < N ∧ i ≠ j ∧ okT lt N (k (lt i j))
structure TotalOn (lt : Nat → Nat → Bool) (n : Nat) : Prop where
  irr : ∀ i, i < n → lt i i = false
  tr : ∀ i j k, i < n → j < n → k < n → lt i j = true → lt j k = true → lt i k = true
  tot : ∀ i j, i < n → j < n → i ≠ j → lt i j = true ∨ lt j i = true
abbrev gg (p : Array Nat) (i : Nat) : Nat := p.getD i 0
def Pm (p : Array Nat) (n : Nat) : Prop := p.toList.Perm (List.range n)
theorem Pm.size {p : Array Nat} {n : Nat} (h : Pm p n) : p.size = n := by
  have := List.Perm.length_eq h
  simpa using this
theorem gg_eq {p : Array Nat} {i : Nat} (h : i < p.size) : gg p i = p[i] := by simp [gg, Array.getD, h]
theorem Pm.lt {p : Array Nat} {n i : Nat} (h : Pm p n) (hi : i < n) : gg p i < n := by
  have hs : i < p.size := by rw [h.size]; exact hi
  have hm : p[i] ∈ List.range n := (List.Perm.mem_iff h).mp (by simp)
  rw [gg_eq hs]
  exact List.mem_range.mp hm
theorem Pm.ne {p : Array Nat} {n i j : Nat} (h : Pm p n) (hi : i < n) (hj : j < n) (hij : i ≠ j) : gg p i ≠ gg p j := by
  have hsi : i < p.size := by rw [h.size]; exact hi
  have hsj : j < p.size := by rw [h.size]; exact hj
  have nd : p.toList.Nodup := (List.Perm.nodup_iff h).mpr List.nodup_range
  rw [gg_eq hsi, gg_eq hsj]
  intro e
  apply hij
  have e' : p.toList[i]'(by simpa using hsi) = p.toList[j]'(by simpa using hsj) := by simpa using e
  exact (List.getElem_inj nd).mp e'
def Up (lt : Nat → Nat → Bool) (p : Array Nat) (k : Nat) : Prop := ∀ i j, i < j → j < k → lt (gg p i) (gg p j) = true
def Dn (lt : Nat → Nat → Bool) (p : Array Nat) (k : Nat) : Prop := ∀ i j, i < j → j < k → lt (gg p j) (gg p i) = true
section
variable {lt : Nat → Nat → Bool} {N : Nat} {p : Array Nat}
theorem Up.more (O : TotalOn lt N) (P : Pm p N) {n : Nat} (h1 : 1 ≤ n) (hn : n < N) (u : Up lt p n) (h : lt (gg p (n - 1)) (gg p n) = true) : Up lt p (n + 1) := by
  intro i j hij hj
  by_cases e : j = n
  · subst e
    by_cases e' : i = j - 1
    · subst e'; exact h
    · exact O.tr _ _ _ (P.lt (by omega)) (P.lt (by omega)) (P.lt hn) (u i (j - 1) (by omega) (by omega)) h
  · exact u i j hij (by omega)
theorem Dn.more (O : TotalOn lt N) (P : Pm p N) {n : Nat} (h1 : 1 ≤ n) (hn : n < N) (u : Dn lt p n) (h : lt (gg p n) (gg p (n - 1)) = true) : Dn lt p (n + 1) := by
  intro i j hij hj
  by_cases e : j = n
  · subst e
    by_cases e' : i = j - 1
    · subst e'; exact h
    · exact O.tr _ _ _ (P.lt hn) (P.lt (by omega)) (P.lt (by omega)) h (u i (j - 1) (by omega) (by omega))
  · exact u i j hij (by omega)
end
end MyS
end
section
set_option Elab.async false
set_option linter.all false
set_option maxRecDepth 100000
set_option maxHeartbeats 1000000
namespace L2
open PySem PySem.Spec PyProof.Rows
theorem HOk.track {P : Program} {w : World} {H : Hp} {h : Heap} {a : Addr} {o : HO} (x : HOk P w H h) (hn : H a = none) (new : ObjOk P w (upd H a o) h a o) : HOk P w (upd H a o) h := fun b u e => by
  by_cases hb : b = a
  · subst hb; rw [upd_same] at e; cases e; exact new
  · rw [upd_ne hb] at e
    refine (x b u e).stay (fun c v _ q => q) (fun c q => ?_) fun c xs q => ?_
    · rw [upd_ne (ne_of_none q hn)]; exact q
    · rw [upd_ne (ne_of_none q hn)]; exact q
theorem HOk.but {P : Program} {w : World} {H : Hp} {h h' : Heap} {C : Addr} (x : HOk P w H h) (hn : H C = none) (k : ∀ b u, b ≠ C → h.get? b = some u → h'.get? b = some u) : HOk P w H h' := fun b u e => by
  refine (x b u e).stay (fun c v hc q => k c v ?_ q) (fun _ q => q) fun _ _ q => q
  rintro rfl
  rcases hc with z | z
  · rw [z, e] at hn; cases hn
  · rw [z] at hn; cases hn
theorem relabel_free {env : Env} : ∀ {names : List (Str × NameKind)} {x : Str}, names.lookup x = some .free →
    (names.map fun (n, k) => if (k == NameKind.free && env.scope.kind == .function && env.kindOf n == some .cell) then (n, NameKind.cell) else (n, k)).lookup x = some .cell ∨
    (names.map fun (n, k) => if (k == NameKind.free && env.scope.kind == .function && env.kindOf n == some .cell) then (n, NameKind.cell) else (n, k)).lookup x = some .free
  | [], _, h => by simp at h
  | (n, k) :: r, x, h => by
    rw [List.map_cons]
    cases hx : x == n with
    | true =>
      rw [List.lookup_cons, hx] at h
      cases h
      dsimp only
      split
      · left; rw [List.lookup_cons, hx]
      · right; rw [List.lookup_cons, hx]
    | false =>
      rw [List.lookup_cons, hx] at h
      have ih := relabel_free (env := env) h
      dsimp only
      split
      · rw [List.lookup_cons, hx]; exact ih
      · rw [List.lookup_cons, hx]; exact ih
theorem relabel_inv {env : Env} : ∀ {names : List (Str × NameKind)} {x : Str} {k' : NameKind}, (k' = .cell ∨ k' = .free) →
    (names.map fun (n, k) => if (k == NameKind.free && env.scope.kind == .function && env.kindOf n == some .cell) then (n, NameKind.cell) else (n, k)).lookup x = some k' → ∃ k, (x, k) ∈ names ∧ (k = .cell ∨ k = .free)
  | [], _, _, _, h => by simp at h
  | (n, k) :: r, x, k', hk, h => by
    rw [List.map_cons] at h
    cases hx : x == n with
    | true =>
      have e : x = n := by simpa using hx
      subst e
      dsimp only at h
      split at h
      · rename_i hc
        have : k = .free := by
          rw [Bool.and_eq_true, Bool.and_eq_true] at hc
          simpa using hc.1.1
        exact ⟨k, List.mem_cons_self .., .inr this⟩
      · rw [List.lookup_cons, hx] at h
        cases h
        exact ⟨k, List.mem_cons_self .., hk⟩
    | false =>
      have h' : (r.map fun (n, k) => if (k == NameKind.free && env.scope.kind == .function && env.kindOf n == some .cell) then (n, NameKind.cell) else (n, k)).lookup x = some k' := by
        dsimp only at h
        split at h
        · rw [List.lookup_cons, hx] at h; exact h
        · rw [List.lookup_cons, hx] at h; exact h
      obtain ⟨k0, h0, h1⟩ := relabel_inv (env := env) hk h'
      exact ⟨k0, List.mem_cons_of_mem _ h0, h1⟩
def cxComp (X : Cx) (N : List Str) (scope : Scope) (cl : List (Str × Addr)) (C : Addr) (s : Shared) (H : Hp) (ex : List Addr) : Cx where
  prog := X.prog
  w := X.w
  K := X.K
  mg := X.mg
  base := X.base
  A := X.A
  N := N
  s₀ := s
  H₀ := H
  env := compEnvC scope cl C X.env
  outer := X.stack
  stack := X.stack
  ex := ex
  fn := fun _ => false
  calm := X.calm
  pn := []
  xe := fun _ _ => False
structure CompScope (sc : Scope) (XN N : List Str) (scope : Scope) (caps : List Nat) : Prop where
  kind : scope.kind = .function
  nd : N.Nodup
  nocell : ∀ y ∈ scope.names, y.2 ≠ .cell
  names : ∀ y ∈ scope.names, y.2 = .local → scope.names.lookup y.1 = some .local
  free : ∀ y ∈ scope.names, y.2 = .free → sc.names.lookup y.1 = some .cell ∨ sc.names.lookup y.1 = some .free
  cap : ∀ (i : Nat), i < caps.length → ∃ x, N[i]? = some x ∧ XN[caps.getD i 0]? = some x ∧ scope.names.lookup x = some .free ∧ (sc.names.lookup x = some .cell ∨ sc.names.lookup x = some .free)
  len : caps.length ≤ N.length
def capStart (caps : List Nat) (n : Nat) (σ : St) : St := caps.map (fun j => (σ[j]?).join) ++ List.replicate (n - caps.length) none
def PF (X : Cx) (ifs : List Expr) (tc : TT) : Prop :=
  ∀ (pins : List (Addr × Obj)) (s : Shared) (σ : St) (H : Hp) (Q : Bool → Hp → Prop), Inv X pins σ H s → tc σ H Q →
    wpAny (model X.prog X.w) X.A (forIn ifs true fun c r => if r = true then do let ok ← isTrue c X.env (eval c X.env); pure (ForInStep.yield ok) else pure (ForInStep.yield r)) (TP X pins σ Q) X.xe s
def tYes : TT := fun _ H Q => Q true H
theorem pf_nil {X : Cx} : PF X [] tYes := fun pins s σ H Q I h => by
  rw [List.forIn_nil]
  exact wpAny_pure ⟨H, I, h⟩
def tComp (wi : TI) (g : TG) (tc : TT) (te : TE) (caps : List Nat) (n : Nat) : TE := fun σ H Q => wi σ H fun J H1 => ∃ W : Nat → Nat → List V → St → Hp → Prop, (∃ m, W 0 m [] (capStart caps n σ) H1) ∧ ∀ i m acc σ' H', W i m acc σ' H' →
  (J.stop i H' ∧ ∀ D, H' D = none → Q (.ref D) (upd H' D (.lst acc))) ∨
  (J.go i H' ∧ acc.length < sizeLine ∧ ∀ x H2, J.yld i H' x H2 → g x σ' H2 fun σ2 H3 => tc σ2 H3 fun b H4 => if b = true then te σ2 H4 fun y H5 => ∃ m', m' < m ∧ W (i + 1) m' (acc ++ [y]) σ2 H5 else ∃ m', m' < m ∧ W (i + 1) m' acc σ2 H4)
section
variable {X : Cx} {pins : List (Addr × Obj)} {σ : St} {H : Hp} {s : Shared} {N : List Str} {scope : Scope} {cl : List (Str × Addr)} {C : Addr} {fp : List Addr} {caps : List Nat}
theorem comp_ok (I : Inv X pins σ H s) (S : CompScope X.env.scope X.N N scope caps) (h1 : ∀ x c, cl.lookup x = some c → X.env.cells.lookup x = some c) (h2 : ∀ x, (x, NameKind.free) ∈ scope.names → ∃ c, cl.lookup x = some c)
    (hC : s.heap.objs.size ≤ C) (hf : ∀ b ∈ fp, FpOk X pins H b) (hfo : ∀ b ∈ fp, b < s.heap.objs.size) : (cxComp X N scope cl C s H fp).Ok where
  mod := I.ok.mod
  kind := S.kind
  glob := I.ok.glob
  blt := I.ok.blt
  above := hC
  inj := fun x y c a b => I.ok.inj x y c (h1 x c a) (h1 y c b)
  has := fun x hx => by
    have hx' : ∃ k', (k' = NameKind.cell ∨ k' = .free) ∧ (relabel scope X.env).names.lookup x = some k' := by
      rcases hx with z | z
      · exact ⟨_, .inl rfl, z⟩
      · exact ⟨_, .inr rfl, z⟩
    obtain ⟨k', hk, z⟩ := hx'
    obtain ⟨k, m, e⟩ := relabel_inv hk z
    rcases e with e | e
    · exact absurd e (S.nocell _ m)
    · subst e; exact h2 x m
  cab := fun x c z => by cases z
  hd := I.ok.hd
  frames := I.ok.frames
  stk := .inl rfl
  exf := fun b hb => by
    obtain ⟨_, _, _, _, f4, _⟩ := hf b hb
    exact ⟨Nat.ne_of_lt (Nat.lt_of_lt_of_le (hfo b hb) hC), fun x c e => f4 x c (h1 x c e)⟩
  bs := I.bs
  bsz := Nat.le_trans I.ok.bsz I.sz
  noex := fun b o e hb => by
    obtain ⟨_, _, _, f3, _⟩ := hf b hb
    rcases f3 with z | z
    · exact I.ok.noex b o e z
    · exact absurd (Nat.lt_of_lt_of_le (Heap.lt_size e) (Nat.le_trans I.ok.bsz z)) (Nat.lt_irrefl _)
  exfs := fun b hb z => by
    obtain ⟨_, f1, f2, _⟩ := hf b hb
    rcases List.mem_cons.mp (I.stkSub b z) with e | e
    · exact f1 e
    · exact f2 e
  funs := I.stack
  frf := I.stkFree
theorem comp_start {h1 : Heap} {D : Addr} {od : Obj} {t : Nat} {m : Str → Option Value} (I : Inv X pins σ H s) (ok : (cxComp X N scope cl C s H fp).Ok) (S : CompScope X.env.scope X.N N scope caps)
    (hcl : ∀ x c, cl.lookup x = some c → X.env.cells.lookup x = some c) (hcl2 : ∀ x, (x, NameKind.free) ∈ scope.names → ∃ c, cl.lookup x = some c)
    (keep : ∀ b o, s.heap.get? b = some o → h1.get? b = some o) (hn : h1.Ns C m) (hC : s.heap.objs.size ≤ C) (hD : h1.get? D = some od) (hDs : s.heap.objs.size ≤ D) (hDC : D ≠ C) (hdc : ∀ v, od.data ≠ .cell v) :
    Inv (cxComp X N scope cl C s H fp) [(D, od)] (capStart caps N.length σ) H { s with heap := h1, toks := t } := by
  have cellK : ∀ x c, cl.lookup x = some c → ∀ v, s.heap.IsCell c v → h1.IsCell c v := fun x c e v ⟨o, ho, hd⟩ => ⟨o, keep c o ho, hd⟩
  refine ⟨ok, rfl, I.bare, Un.kept keep, ⟨m, hn, fun i x v e1 e2 e3 => ?_⟩, fun x c e => ?_, I.hok.fresh hC, fun x c e => I.freeC x c (hcl x c e), fun p hp => ?_, I.hok.kept keep, ?_⟩
  · have hi : i < caps.length := by
      by_cases hi : i < caps.length
      · exact hi
      · exfalso
        unfold capStart at e2
        rw [List.getElem?_append_right (by simpa using hi), List.getElem?_replicate] at e2
        split at e2 <;> cases e2
    obtain ⟨y, y1, y2, y3, y4⟩ := S.cap i hi
    have exy : x = y := by
      have e1' : N[i]? = some x := e1
      rw [y1] at e1'; exact (Option.some.inj e1').symm
    subst exy
    have e4 : σ[caps.getD i 0]? = some (some v) := by
      unfold capStart at e2
      rw [List.getElem?_append_left (by simpa using hi), List.getElem?_map] at e2
      have : caps[i]? = some (caps.getD i 0) := by rw [List.getD_eq_getElem?_getD]; simp [hi]
      rw [this] at e2
      have e2' : (σ[caps.getD i 0]?).join = some v := by simpa using e2
      cases q : σ[caps.getD i 0]? with
      | none => rw [q] at e2'; cases e2'
      | some z => rw [q] at e2'; have : z = some v := e2'; rw [this]
    obtain ⟨m', _, hl⟩ := I.loc
    obtain ⟨u, r, l⟩ := hl _ x v y2 e4 (y4.elim (fun z => .inr (.inl z)) fun z => .inr (.inr z))
    refine ⟨u, r, ?_⟩
    have nl : X.env.kindOf x ≠ some .local := by
      rcases y4 with z | z
      · show X.env.scope.names.lookup x ≠ _; rw [z]; decide
      · show X.env.scope.names.lookup x ≠ _; rw [z]; decide
    rcases l with ⟨k, _⟩ | ⟨_, c, hc, z⟩
    · exact absurd k nl
    · obtain ⟨c', hc'⟩ := hcl2 x (PySem.mem_of_lookup y3)
      have : c = c' := Option.some.inj (hc.symm.trans (hcl x c' hc'))
      subst this
      refine .inr ⟨?_, c, hc', cellK x c hc' _ z⟩
      exact relabel_free (env := X.env) y3
  · obtain ⟨v, z⟩ := I.cell x c (hcl x c e)
    exact ⟨v, cellK x c e v z⟩
  · have : p = (D, od) := by
      have hp' : p ∈ [(D, od)] := hp
      simpa using hp'
    subst this
    refine ⟨hD, I.hok.fresh hDs, hDC, fun z => ?_, hdc⟩
    have z' : D ∈ frs X.stack := z
    obtain ⟨_, o, ho, _⟩ := I.stack.mem z'
    exact absurd (Nat.lt_of_lt_of_le (Heap.lt_size ho) hDs) (Nat.lt_irrefl _)
  · unfold capStart
    show _ = N.length
    rw [List.length_append, List.length_map, List.length_replicate]
    have := S.len
    omega
end
section
variable {X : Cx}
theorem pe_comp {tg iter elt : Expr} {ifs : List Expr} {scope : Scope} {pos : Pos} {wi : TI} {g : TG} {tc : TT} {te : TE} {N : List Str} {caps : List Nat} (hc : X.calm = true) (S : CompScope X.env.scope X.N N scope caps)
    (hi : PI X tg iter wi) (hg : ∀ cl C s H ex, PG (cxComp X N scope cl C s H ex) tg g) (hf : ∀ cl C s H ex, PF (cxComp X N scope cl C s H ex) ifs tc) (he : ∀ cl C s H ex, PE (cxComp X N scope cl C s H ex) elt te)
    (hs : ∀ x, foldedSetIterable iter X.env x = pure x := by intro _; rfl) : PE X (.ListComp elt [⟨tg, iter, ifs, 0⟩] scope pos) (tComp wi g tc te caps N.length) := by
  intro pins s σ H Q I h
  obtain ⟨cl, hcl, hcl1, hcl2⟩ := closure_of (env := X.env) (scope := scope) fun y hy e => I.ok.has y.1 (S.free y hy e)
  rw [eval_ListComp]
  refine wpAny_comprehension_free (use := none) rfl hs hcl S.kind S.names (thn (hi pins s σ H _ I h) fun v s1 h1 => thn h1 fun itv s2 h2 => ?_)
  obtain ⟨it, fp, tn, J, H2, e, I2, T, st2, f2, W, ⟨m0, w0⟩, turn⟩ := h2
  subst e
  refine wpAny_newObj_type (wpAny_newFunctionEnv S.nocell (by intro y hy; simp at hy) (fun h₁ hns hsb => ?_) S.kind)
  dsimp only at hns hsb ⊢
  generalize hG : s2.heap.push { cls := .type "list", dict := none, data := .seq ([] : List Value).toArray } = G at hns hsb ⊢
  have hCs : G.objs.size = s2.heap.objs.size + 1 := by rw [← hG, Heap.size_push]
  have hDC : s2.heap.objs.size ≠ G.objs.size := by rw [hCs]; exact Nat.ne_of_lt (Nat.lt_succ_self _)
  have old : ∀ b o, s2.heap.get? b = some o → h₁.get? b = some o := fun b o e => by
    have hb := Heap.lt_size e
    refine hsb.extBut b o (by rw [hCs]; exact Nat.ne_of_lt (Nat.lt_succ_of_lt hb)) (Heap.get?_push_of_some _ ?_)
    rw [← hG]
    exact Heap.get?_push_of_some _ e
  have hD : h₁.get? s2.heap.objs.size = some { cls := .type "list", dict := none, data := .seq ([] : List Value).toArray } := by
    refine hsb.extBut _ _ hDC (Heap.get?_push_of_some _ ?_)
    rw [← hG]
    exact Heap.get?_push_size _ rfl
  have hfo : ∀ b ∈ fp, b < s2.heap.objs.size := fun b hb => let ⟨o, e, _⟩ := T.obj 0 _ st2 b hb; Heap.lt_size e
  have hCle : s2.heap.objs.size ≤ G.objs.size := by omega
  have ok := comp_ok (C := G.objs.size) I2 S hcl1 hcl2 hCle f2 hfo
  have I0 : Inv (cxComp X N scope cl G.objs.size s2 H2 fp) [(s2.heap.objs.size, { cls := .type "list", dict := none, data := .seq ([] : List Value).toArray })] (capStart caps N.length σ) H2 { s2 with heap := h₁, toks := s2.toks + ([] : List (Str × Value)).length } :=
    comp_start I2 ok S hcl1 hcl2 old hns hCle hD (Nat.le_refl _) hDC (fun v z => by cases z)
  have st1 : tn 0 h₁ := T.keep 0 _ _ st2 fun b _ o e => old b o e
  generalize hX : cxComp X N scope cl G.objs.size s2 H2 fp = X' at I0
  generalize hDa : s2.heap.objs.size = D at I0 hD hDC
  have loop : codeAny (model X.prog X.w) X.A (.compLoop (.ListComp elt [⟨tg, iter, ifs, 0⟩] scope pos) 0 (.ref it) (.ref D) (compEnvC scope cl G.objs.size X.env)) (compPost (model X.prog X.w) X.A X.xe none (EP X pins σ Q) (.ref D) G.objs.size)
      { s2 with heap := h₁, toks := s2.toks + ([] : List (Str × Value)).length } := by
    subst hX
    refine loop_comp (J := fun n s' => ∃ i σ' H' acc its e, Inv (cxComp X N scope cl G.objs.size s2 H2 fp) [(D, { cls := .type "list", data := .seq (List.toArray its) e })] σ' H' s' ∧ Vals acc its ∧ acc.length ≤ sizeLine ∧ tn i s'.heap ∧ (∀ b ∈ fp, H' b = none) ∧ W i n acc σ' H')
      ?_ m0 ⟨0, _, H2, [], [], 0, I0, .nil, Nat.zero_le _, st1, fun b hb => (f2 b hb).1, w0⟩
    rintro n s3 ⟨i, σ3, H3, acc, its, ep, I3, rv, hz, st3, fr3, w3⟩
    have stat : ∀ {H' : Hp} {pl : List (Addr × Obj)}, (∀ b ∈ fp, H' b = none) → (∀ p ∈ pl, p.1 = D) → ∀ b ∈ fp, FpOk (cxComp X N scope cl G.objs.size s2 H2 fp) pl H' b := fun {H' pl} hn hpl b hb => by
      obtain ⟨a1, a2⟩ := ok.exf b hb
      exact ⟨hn b hb, a1, ok.exfs b hb, .inl hb, fun x c e => a2 x c e, fun p hp => by
        have hp' : p ∈ pl := hp
        rw [hpl p hp', ← hDa]
        exact Nat.ne_of_gt (hfo b hb)⟩
    have one : ∀ p ∈ [(D, ({ cls := .type "list", data := .seq (List.toArray its) ep } : Obj))], p.1 = D := fun p hp => by
      rcases List.mem_cons.mp hp with e | e
      · rw [e]
      · cases e
    have pinD : ∀ {pl : List (Addr × Obj)} {σ' : St} {H' : Hp} {s' : Shared} {o : Obj}, Inv (cxComp X N scope cl G.objs.size s2 H2 fp) pl σ' H' s' → (D, o) ∈ pl → s'.heap.get? D = some o ∧ H' D = none := fun {pl σ' H' s' o} I' hm => by
      obtain ⟨a, b, _⟩ := I'.pin (D, o) (List.mem_append_right _ hm)
      exact ⟨a, b⟩
    rcases turn i n acc σ3 H3 w3 with ⟨stop, q⟩ | ⟨go, hlt, step⟩
    · refine wpAny_mono (T.done (cxComp X N scope cl G.objs.size s2 H2 fp) rfl rfl rfl hc i _ s3 σ3 H3 (fun _ _ => False) I3 (stat fr3 one) st3 stop) (fun r s4 ⟨hr, I4⟩ => ?_) fun _ _ f => f
      subst hr
      obtain ⟨hDo, hDn⟩ := pinD I4 (List.mem_cons_self ..)
      obtain ⟨m4, hm4, _⟩ := I4.loc
      refine ⟨m4, hm4, fun h' hsb' => ?_⟩
      have keepC : ∀ b u, b ≠ G.objs.size → s4.heap.get? b = some u → h'.get? b = some u := fun b u hb e => hsb'.extBut b u hb e
      have un : Un (frs X.stack) fp H2 H3 s2.heap s4.heap := I4.base
      have hDo' : h'.get? D = some { cls := .type "list", data := .seq (List.toArray its) ep } := keepC D _ hDC hDo
      have hlow : ∀ b (o : Obj), s2.heap.get? b = some o → b ≠ G.objs.size ∧ b ≠ D := fun b o e => by
        have h0 := Heap.lt_size e
        exact ⟨by rw [hCs]; exact Nat.ne_of_lt (Nat.lt_succ_of_lt h0), by rw [← hDa]; exact Nat.ne_of_lt h0⟩
      have un' : Un (frs X.stack) fp H2 (upd H3 D (.lst acc)) s2.heap h' :=
        ⟨fun b o e n' hb hx => keepC b o (hlow b o e).1 (un.keep b o e n' hb hx),
         fun b o e n' hb hx => let ⟨sl, q⟩ := un.slot b o e n' hb hx; ⟨sl, keepC b _ (hlow b o e).1 q⟩,
         fun b o e n' hx => by rw [upd_ne (hlow b o e).2]; exact un.free b o e n' hx,
         fun b o e hx => let ⟨o', q⟩ := un.there b o e hx; ⟨o', keepC b _ (hlow b o e).1 q⟩,
         fun b xs e => by rw [upd_ne (ne_of_none (un.tups b xs e) hDn)]; exact un.tups b xs e,
         fun b o u e => by rw [upd_ne (ne_of_none (un.frzs b o u e) hDn)]; exact un.frzs b o u e,
         fun b ps e => let ⟨mo, q⟩ := un.tbls b ps e; ⟨mo, by rw [upd_ne (ne_of_none q hDn)]; exact q⟩⟩
      have hok : HOk X.prog X.w (upd H3 D (.lst acc)) h' := (I4.hok.but I4.free keepC).track hDn ⟨hz, its, ep, rv, hDo'⟩
      refine ⟨.ref D, upd H3 D (.lst acc), I2.call' (s' := { s4 with heap := h' }) I4.os un' hok I4.bare (fun b hb => ?_), rfl, q D hDn⟩
      obtain ⟨_, f1, _, f3, f4, f5⟩ := f2 b hb
      exact ⟨f3, f1, f4, f5⟩
    · refine wpAny_mono (T.item (cxComp X N scope cl G.objs.size s2 H2 fp) rfl rfl rfl hc i _ s3 σ3 H3 (fun _ _ => False) I3 (stat fr3 one) st3 go) (fun r s4 ⟨u, hr, h4⟩ => ?_) fun _ _ f => f
      subst hr
      refine thn h4 fun _ s5 ⟨x, H5, I5, r5, y5, st5, fr5⟩ => ?_
      have I5' := I5.pinned (stat fr5 one) (T.obj _ _ st5)
      refine thn (hg cl G.objs.size s2 H2 fp _ s5 σ3 H5 x u _ I5' r5 (step x H5 y5)) fun _ s6 ⟨σ6, H6, I6, q6⟩ => ?_
      refine thn (hf cl G.objs.size s2 H2 fp _ s6 σ6 H6 _ I6 q6) fun b s7 ⟨H7, I7, q7⟩ => ?_
      have fin : ∀ {pl : List (Addr × Obj)} {σ' : St} {H' : Hp} {s' : Shared}, Inv (cxComp X N scope cl G.objs.size s2 H2 fp) (pl ++ pinsAt fp s5.heap) σ' H' s' → tn (i + 1) s'.heap ∧ ∀ b ∈ fp, H' b = none := fun {pl σ' H' s'} I' => by
        refine ⟨T.keep _ _ _ st5 fun b hb o e => (I'.pin (b, o) (List.mem_append_right _ (List.mem_append_right _ (mem_pinsAt hb e)))).1, fun b hb => ?_⟩
        obtain ⟨o, e, _⟩ := T.obj _ _ st5 b hb
        exact (I'.pin (b, o) (List.mem_append_right _ (List.mem_append_right _ (mem_pinsAt hb e)))).2.1
      cases b with
      | false =>
        rw [if_neg Bool.false_ne_true] at q7 ⊢
        obtain ⟨m', hm, w7⟩ := q7
        obtain ⟨a1, a2⟩ := fin I7
        exact ⟨m', hm, i + 1, σ6, H7, acc, its, ep, I7.unpinned, rv, hz, a1, a2, w7⟩
      | true =>
        rw [if_pos rfl] at q7 ⊢
        refine thn (he cl G.objs.size s2 H2 fp _ s7 σ6 H7 _ I7 q7) fun y s8 ⟨yv, H8, I8, r8, m', hm, w8⟩ => ?_
        obtain ⟨a1, a2⟩ := fin I8
        obtain ⟨b1, b2⟩ := pinD I8 (List.mem_append_left _ (List.mem_cons_self ..))
        have hl := rv.length
        refine call_meets F.slot_list_append ⟨_, b1, rfl⟩ F.entry_list_append (F.args_list_append_2 _ _) (PySem.list_append D its.toArray ep y (by rw [List.size_toArray]; omega)) ⟨b1, ?_⟩
        have q9 := PySem.IsL.update b1 (·.push y)
        have kp : ∀ b o, b ≠ D → s8.heap.get? b = some o → (s8.heap.update D (Obj.mapSeq (·.push y))).get? b = some o := fun b o hb e => (Heap.get?_update_other s8.heap (Obj.mapSeq (·.push y)) (Ne.symm hb)).trans e
        have I9 : Inv (cxComp X N scope cl G.objs.size s2 H2 fp) [] σ6 H8 { s8 with heap := s8.heap.update D (Obj.mapSeq (·.push y)) } :=
          (I8.pins_of (pins' := []) fun p hp => by cases hp).turned (t' := s8.toks) kp b2 hDC (.inr (by rw [← hDa]; exact Nat.le_refl _)) (fun x c e z => by
            have e' : X.env.cells.lookup x = some c := hcl1 x c e
            obtain ⟨v', hv'⟩ := I2.cell x c e'
            have h0 := hv'.lt
            rw [z, ← hDa] at h0
            exact Nat.lt_irrefl _ h0) fun p hp => by
              have : p ∈ ([] : List (Addr × Obj)) := hp
              cases this
        have hpu : its.toArray.push y = (its ++ [y]).toArray := by simp
        rw [hpu] at q9
        obtain ⟨e9, q9⟩ : ∃ e9, (s8.heap.update D (Obj.mapSeq (·.push y))).get? D = some { cls := .type "list", data := .seq (its ++ [y]).toArray e9 } := ⟨_, q9⟩
        refine ⟨m', hm, i + 1, σ6, H8, acc ++ [yv], its ++ [y], e9, I9.pins_of fun p hp => ?_, rv.append (.cons r8 .nil), ?_, T.keep _ _ _ a1 fun b hb o e => kp b o ?_ e, a2, w8⟩
        · obtain rfl : p = (D, { cls := .type "list", data := .seq (its ++ [y]).toArray e9 }) := by
            rcases List.mem_cons.mp hp with e | e
            · exact e
            · cases e
          obtain ⟨_, _, c3, c4, _⟩ := I8.pin (D, _) (List.mem_append_right _ (List.mem_append_left _ (List.mem_cons_self ..)))
          exact ⟨q9, b2, c3, c4, fun v z => by cases z⟩
        · rw [List.length_append, List.length_singleton]; omega
        · rintro rfl
          have h0 := hfo b hb
          rw [hDa] at h0
          exact Nat.lt_irrefl _ h0
  exact codeAny_compStart_list loop (T.self X.A 0 _ _ _ st1 loop)
end
end L2
end
section
set_option Elab.async false
set_option linter.all false
set_option maxRecDepth 100000
set_option maxHeartbeats 1000000
namespace MyS
open PySem PySem.W PyProof.Rows PySem.Spec
def keyAt (ks : List Str) (i : Nat) : List Nat := (ks.getD i ⟨#[]⟩).cps.toList
def ltAt (ks : List Str) (i j : Nat) : Bool := decide (keyAt ks i < keyAt ks j)
theorem Str_ext {a b : Str} (h : a.cps.toList = b.cps.toList) : a = b := by
  cases a; cases b
  congr 1
  exact Array.toList_inj.mp h
def PairAt (h : Heap) (a : Addr) (v : Value) (k : Str) : Prop := ∃ b o t x n, v = Value.ref b ∧ b ≠ a ∧ h.get? b = some o ∧ o.cls = .type "tuple" ∧ o.data = .seq #[.str k t, x] n
theorem PairAt.keep {h h' : Heap} {a : Addr} {v : Value} {k : Str} (p : PairAt h a v k) (e : ∀ b o, b ≠ a → h.get? b = some o → h'.get? b = some o) : PairAt h' a v k := by
  obtain ⟨b, o, t, x, n, h1, h2, h3, h4⟩ := p
  exact ⟨b, o, t, x, n, h1, h2, e b o h2 h3, h4⟩
section
variable {prog : Program} {w : World} {A : Around} {E : Value → Shared → Prop} {s : Shared}
end
section
variable {prog : Program} {w : World} {A : Around} {E : Value → Shared → Prop} {s : Shared}
end
section
variable {prog : Program} {w : World} {A : Around} {E : Value → Shared → Prop} {s : Shared}
end
end MyS
end
section
set_option Elab.async false
set_option linter.all false
set_option maxRecDepth 100000
set_option maxHeartbeats 1000000
namespace L2
open PySem PySem.Spec PyProof.Rows
theorem Same.seqT {K : PySem.W.Frag} {H H' : Hp} {a : Addr} {xs : List V} (e : Same H H') (h : SqT K H a xs) : SqT K H' a xs := by
  rcases h with (h | ⟨o, h⟩) | h
  · exact .inl (.inl (e _ _ h))
  · exact .inl (.inr ⟨o, e _ _ h⟩)
  · exact .inr h
mutual
def Rep (K : PySem.W.Frag) (H : Hp) : PyData → V → Prop
  | .none, v => v = .non
  | .bool b, v => v = .bl b
  | .int i, v => v = .int i
  | .str x, v => v = .str x
  | .list ds, v => ∃ a xs, v = .ref a ∧ SqL K H a xs ∧ Reps K H ds xs
  | .tuple ds, v => ∃ a xs, v = .ref a ∧ SqT K H a xs ∧ Reps K H ds xs
  | .dict _, _ => False
def Reps (K : PySem.W.Frag) (H : Hp) : List PyData → List V → Prop
  | [], xs => xs = []
  | d :: ds, xs => ∃ y ys, xs = y :: ys ∧ Rep K H d y ∧ Reps K H ds ys
end
mutual
theorem Rep.same {K : PySem.W.Frag} {H H' : Hp} (e : Same H H') : ∀ (d : PyData) (v : V), Rep K H d v → Rep K H' d v
  | .none, v, h => h
  | .bool b, v, h => h
  | .int i, v, h => h
  | .str x, v, h => h
  | .list ds, v, h => by
    obtain ⟨a, xs, h1, h2, h3⟩ := h
    exact ⟨a, xs, h1, e.seq h2, Reps.same e ds xs h3⟩
  | .tuple ds, v, h => by
    obtain ⟨a, xs, h1, h2, h3⟩ := h
    exact ⟨a, xs, h1, e.seqT h2, Reps.same e ds xs h3⟩
  | .dict _, v, h => h
theorem Reps.same {K : PySem.W.Frag} {H H' : Hp} (e : Same H H') : ∀ (ds : List PyData) (xs : List V), Reps K H ds xs → Reps K H' ds xs
  | [], xs, h => h
  | d :: ds, xs, h => by
    obtain ⟨y, ys, h1, h2, h3⟩ := h
    exact ⟨y, ys, h1, Rep.same e d y h2, Reps.same e ds ys h3⟩
end
theorem Reps.length {K : PySem.W.Frag} {H : Hp} : ∀ {ds : List PyData} {xs : List V}, Reps K H ds xs → ds.length = xs.length
  | [], xs, h => by rw [show xs = [] from h]; rfl
  | d :: ds, xs, h => by
    obtain ⟨y, ys, h1, _, h3⟩ := h
    rw [h1, List.length_cons, List.length_cons, Reps.length h3]
theorem Reps.get {K : PySem.W.Frag} {H : Hp} : ∀ {ds : List PyData} {xs : List V} {i : Nat} {y : V}, Reps K H ds xs → xs[i]? = some y → ∃ d, ds[i]? = some d ∧ Rep K H d y
  | [], xs, i, y, h, e => by rw [show xs = [] from h] at e; simp at e
  | d :: ds, xs, i, y, h, e => by
    obtain ⟨z, zs, h1, h2, h3⟩ := h
    subst h1
    cases i with
    | zero =>
      have : z = y := by simpa using e
      subst this
      exact ⟨d, rfl, h2⟩
    | succ i =>
      obtain ⟨d', e1, e2⟩ := Reps.get (i := i) h3 (by simpa using e)
      exact ⟨d', by simpa using e1, e2⟩
theorem Reps.append {K : PySem.W.Frag} {H : Hp} : ∀ {ds es : List PyData} {xs ys : List V}, Reps K H ds xs → Reps K H es ys → Reps K H (ds ++ es) (xs ++ ys)
  | [], es, xs, ys, h, h' => by rw [show xs = [] from h]; exact h'
  | d :: ds, es, xs, ys, h, h' => by
    obtain ⟨z, zs, h1, h2, h3⟩ := h
    subst h1
    exact ⟨z, zs ++ ys, rfl, h2, Reps.append h3 h'⟩
theorem Reps.one {K : PySem.W.Frag} {H : Hp} {d : PyData} {v : V} (h : Rep K H d v) : Reps K H [d] [v] := ⟨v, [], rfl, h, rfl⟩
theorem Reps.drop {K : PySem.W.Frag} {H : Hp} : ∀ {ds : List PyData} {xs : List V} (k : Nat), Reps K H ds xs → Reps K H (ds.drop k) (xs.drop k)
  | [], xs, k, h => by rw [show xs = [] from h]; simp [Reps]
  | d :: ds, xs, 0, h => h
  | d :: ds, xs, k + 1, h => by
    obtain ⟨z, zs, h1, _, h3⟩ := h
    subst h1
    exact Reps.drop k h3
theorem Reps.take {K : PySem.W.Frag} {H : Hp} : ∀ {ds : List PyData} {xs : List V} (k : Nat), Reps K H ds xs → Reps K H (ds.take k) (xs.take k)
  | [], xs, k, h => by rw [show xs = [] from h]; simp [Reps]
  | d :: ds, xs, 0, h => by simp [Reps]
  | d :: ds, xs, k + 1, h => by
    obtain ⟨z, zs, h1, h2, h3⟩ := h
    subst h1
    exact ⟨z, zs.take k, rfl, h2, Reps.take k h3⟩
theorem Reps.strs {K : PySem.W.Frag} {H : Hp} : ∀ {ss : List Str} {xs : List V}, Reps K H (ss.map PyData.str) xs ↔ xs = ss.map V.str
  | [], xs => Iff.rfl
  | s :: ss, xs => by
    constructor
    · rintro ⟨y, ys, h1, h2, h3⟩
      have h2' : y = .str s := h2
      rw [h1, h2', Reps.strs.mp h3]; rfl
    · intro e
      exact ⟨.str s, ss.map V.str, e, rfl, Reps.strs.mpr rfl⟩
section
variable {X : Cx} {pins : List (Addr × Obj)} {σ : St} {H : Hp} {s : Shared}
mutual
theorem Rep.reads (I : Inv X pins σ H s) : ∀ (d : PyData) (v : V) (u : Value), Rep X.K H d v → RelV v u → ∃ as, Reads s.heap u d as
  | .none, v, u, h, r => by
    have h' : v = .non := h
    subst h'
    cases r
    exact ⟨_, .none⟩
  | .bool b, v, u, h, r => by
    have h' : v = .bl b := h
    subst h'
    cases r
    exact ⟨_, .bool b⟩
  | .int i, v, u, h, r => by
    have h' : v = .int i := h
    subst h'
    obtain ⟨t, rfl⟩ := r
    exact ⟨_, .int i t⟩
  | .str x, v, u, h, r => by
    have h' : v = .str x := h
    subst h'
    obtain ⟨t, rfl⟩ := r
    exact ⟨_, .str x t⟩
  | .list ds, v, u, h, r => by
    obtain ⟨a, xs, h1, h2, h3⟩ := h
    subst h1
    cases r
    obtain ⟨its, rv, ⟨o, n, e, hc, _, hd⟩, _⟩ := I.list h2
    obtain ⟨as, ra⟩ := Reps.reads I ds xs its h3 rv
    exact ⟨_, .list e hc hd (by simpa using ra)⟩
  | .tuple ds, v, u, h, r => by
    obtain ⟨a, xs, h1, h2, h3⟩ := h
    subst h1
    cases r
    obtain ⟨its, rv, ⟨o, e, hc, n, hd⟩, _⟩ := I.tuple h2
    obtain ⟨as, ra⟩ := Reps.reads I ds xs its h3 rv
    exact ⟨_, .tuple e hc hd (by simpa using ra)⟩
  | .dict _, v, u, h, r => h.elim
theorem Reps.reads (I : Inv X pins σ H s) : ∀ (ds : List PyData) (xs : List V) (us : List Value), Reps X.K H ds xs → Vals xs us → ∃ as, ReadsAll s.heap us ds as
  | [], xs, us, h, r => by
    have h' : xs = [] := h
    subst h'
    cases r
    exact ⟨_, .nil⟩
  | d :: ds, xs, us, h, r => by
    obtain ⟨y, ys, h1, h2, h3⟩ := h
    subst h1
    cases r with
    | cons r1 r2 =>
      obtain ⟨as, ra⟩ := Rep.reads I d y _ h2 r1
      obtain ⟨bs, rb⟩ := Reps.reads I ds ys _ h3 r2
      exact ⟨_, .cons ra rb⟩
end
def rEqD (K : PySem.W.Frag) (neg : Bool) : R2 := fun x y H Q => ∃ d e, Rep K H d x ∧ Rep K H e y ∧ SeqAt.shaped d = true ∧ SeqAt.shaped e = true ∧ Q (.bl (if neg = true then !PyData.eqv d e else PyData.eqv d e)) H
theorem op_eqD (hu : X.A.units + 64 < cLine) : OpR X (compareOp .Eq) (rEqD X.K false) := by
  intro pins s σ H x y v u Q I rx ry h
  obtain ⟨d, e, h1, h2, h3, h4, q⟩ := h
  obtain ⟨as, ra⟩ := Rep.reads I d x v h1 rx
  obtain ⟨bs, rb⟩ := Rep.reads I e y u h2 ry
  exact eq_dataH ra rb h3 h4 hu ⟨.bl _, H, I, rfl, q⟩
theorem op_neD (hu : X.A.units + 64 < cLine) : OpR X (compareOp .NotEq) (rEqD X.K true) := by
  intro pins s σ H x y v u Q I rx ry h
  obtain ⟨d, e, h1, h2, h3, h4, q⟩ := h
  obtain ⟨as, ra⟩ := Rep.reads I d x v h1 rx
  obtain ⟨bs, rb⟩ := Rep.reads I e y u h2 ry
  exact ne_dataH ra rb h3 h4 hu ⟨.bl _, H, I, rfl, q⟩
end
mutual
theorem eqv_refl : ∀ d : PyData, d.canLay0 = true → PyData.eqv d d = true
  | .none, _ => rfl
  | .bool b, _ => by simp [PyData.eqv]
  | .int i, _ => by simp [PyData.eqv]
  | .str x, _ => by simp [PyData.eqv]
  | .list ds, h => by
    have h' : PyData.canLayAll0 ds = true := by simpa [PyData.canLay0] using h
    simp only [PyData.eqv]; exact eqvAll_refl ds h'
  | .tuple ds, h => by
    have h' : PyData.canLayAll0 ds = true := by simpa [PyData.canLay0] using h
    simp only [PyData.eqv]; exact eqvAll_refl ds h'
  | .dict _, h => by simp [PyData.canLay0] at h
theorem eqvAll_refl : ∀ ds : List PyData, PyData.canLayAll0 ds = true → PyData.eqvAll ds ds = true
  | [], _ => rfl
  | d :: ds, h => by
    have h' : d.canLay0 = true ∧ PyData.canLayAll0 ds = true := by simpa [PyData.canLayAll0] using h
    simp only [PyData.eqvAll, eqv_refl d h'.1, eqvAll_refl ds h'.2, Bool.and_self]
end
end L2
end
section
set_option Elab.async false
set_option linter.all false
set_option maxRecDepth 100000
set_option maxHeartbeats 1000000
namespace L2
open PySem PySem.Spec PyProof.Rows
def updL (H : Hp) (news : List (Addr × HO)) : Hp := fun b => match news.lookup b with
  | some o => some o
  | none => H b
theorem updL_old {H : Hp} {news : List (Addr × HO)} {b : Addr} (h : b ∉ news.map (·.1)) : updL H news b = H b := by
  unfold updL
  have : news.lookup b = none := by
    induction news with
    | nil => rfl
    | cons p r ih =>
      rw [List.map_cons, List.mem_cons, not_or] at h
      have hb : (b == p.1) = false := by simpa using h.1
      obtain ⟨x, y⟩ := p
      rw [List.lookup_cons, hb]
      exact ih h.2
  rw [this]
theorem updL_inv {H : Hp} {news : List (Addr × HO)} {b : Addr} {o : HO} (h : updL H news b = some o) : (b, o) ∈ news ∨ (b ∉ news.map (·.1) ∧ H b = some o) := by
  by_cases hb : b ∈ news.map (·.1)
  · left
    unfold updL at h
    cases e : news.lookup b with
    | some u =>
      rw [e] at h
      have : u = o := Option.some.inj h
      subst this
      clear h hb
      induction news with
      | nil => cases e
      | cons p r ih =>
        obtain ⟨x, y⟩ := p
        rw [List.lookup_cons] at e
        cases hx : b == x with
        | true =>
          rw [hx] at e
          have e1 : b = x := by simpa using hx
          have e2 : y = u := Option.some.inj e
          subst e1; subst e2
          exact List.mem_cons_self ..
        | false =>
          rw [hx] at e
          exact List.mem_cons_of_mem _ (ih e)
    | none =>
      exfalso
      clear h
      induction news with
      | nil => cases hb
      | cons p r ih =>
        obtain ⟨x, y⟩ := p
        rw [List.lookup_cons] at e
        cases hx : b == x with
        | true => rw [hx] at e; cases e
        | false =>
          rw [hx] at e
          rw [List.map_cons, List.mem_cons] at hb
          rcases hb with z | z
          · have : (b == x) = true := by simpa using z
            rw [this] at hx; cases hx
          · exact ih z e
  · rw [updL_old hb] at h
    exact .inr ⟨hb, h⟩
theorem updL_same {H : Hp} {news : List (Addr × HO)} (hn : ∀ p ∈ news, H p.1 = none) : Same H (updL H news) := fun b o e => by
  rw [updL_old fun z => ?_]
  · exact e
  · obtain ⟨p, hp, rfl⟩ := List.mem_map.mp z
    rw [hn p hp] at e; cases e
theorem ObjOk.obj {P : Program} {w : World} {H : Hp} {h : Heap} {a : Addr} {o : HO} (x : ObjOk P w H h a o) : ∃ u, h.get? a = some u := by
  cases o with
  | lst xs => obtain ⟨_, _, _, _, e⟩ := x; exact ⟨_, e⟩
  | tup xs => obtain ⟨_, _, _, _, e, _⟩ := x; exact ⟨_, e⟩
  | dK kvs => obtain ⟨_, _, _, _, o, _, _, e, _⟩ := x; exact ⟨_, e⟩
  | dT kvs => obtain ⟨_, _, _, _, o, _, _, e, _⟩ := x; exact ⟨_, e⟩
  | set S n => obtain ⟨o, _, _, _, e, _⟩ := x; exact ⟨_, e⟩
  | ins C dx fs => obtain ⟨_, _, _, e, _⟩ := x; exact ⟨_, e⟩
  | own y => exact x
  | xd fs => obtain ⟨_, ⟨_, _, _, e, _⟩, _⟩ := x; exact ⟨_, e⟩
  | rng lo hi => obtain ⟨_, _, _, e⟩ := x; exact ⟨_, e⟩
  | frz ob u => obtain ⟨e, _⟩ := x; exact ⟨_, e⟩
  | tbl ps => exact ⟨_, (show h.get? a = some _ from x)⟩
  | met f y => exact ⟨_, (show h.get? a = some _ from x)⟩
  | ext φ => obtain ⟨_, e, _⟩ := x; exact e
theorem HOk.free {P : Program} {w : World} {H : Hp} {h : Heap} {a : Addr} (x : HOk P w H h) (e : h.get? a = none) : H a = none := by
  cases q : H a with
  | none => rfl
  | some u =>
    obtain ⟨v, hv⟩ := (x a u q).obj
    rw [hv] at e; cases e
section
variable {X : Cx} {pins : List (Addr × Obj)} {σ : St} {H : Hp} {s : Shared}
theorem Inv.many {h' : Heap} {t' : Nat} {news : List (Addr × HO)} (I : Inv X pins σ H s) (k : ∀ b u, s.heap.get? b = some u → h'.get? b = some u) (hge : ∀ p ∈ news, s.heap.get? p.1 = none)
    (new : ∀ p ∈ news, ObjOk X.prog X.w (updL H news) h' p.1 p.2) : Inv X pins σ (updL H news) { s with heap := h', toks := t' } := by
  have hn : ∀ p ∈ news, H p.1 = none := fun p hp => I.hok.free (hge p hp)
  have sm := updL_same hn
  have hold : ∀ b (o : Obj), s.heap.get? b = some o → updL H news b = H b := fun b o e => updL_old fun z => by
    obtain ⟨p, hp, rfl⟩ := List.mem_map.mp z
    rw [hge p hp] at e; cases e
  refine I.un (H' := updL H news) ⟨fun b o e _ _ _ => k b o e, fun b o e _ _ _ => ⟨o.slots, k b o e⟩, fun b o e n _ => by rw [hold b o e]; exact n, fun b o e _ => ⟨o, k b o e⟩, fun b xs e => sm b _ e, fun b o u e => sm b _ e, fun b ps e => ⟨#[], by rw [sm b _ e]; simp⟩⟩ fun b u e => ?_
  rcases updL_inv e with z | ⟨_, z⟩
  · exact new (b, u) z
  · exact (I.hok b u z).stay (fun c v _ q => k c v q) (fun c q => sm c _ q) fun c xs q => sm c _ q
end
def vwObj (d : Addr) : Obj := { cls := .type "dict_items", data := .fields #[.ref d] }
def VW (p d : Addr) : HO := .ext fun h => h.get? p = some (vwObj d)
section
variable {X : Cx}
def rItems : V → List V → Hp → VK → Prop := fun x vs H Q => ∃ d kvs, x = .ref d ∧ vs = [] ∧ H d = some (.dK kvs) ∧ ∀ p, H p = none → Q (.ref p) (upd H p (VW p d))
abbrev encK (kvs : List (Str × V)) : List (Key × V) := kvs.map fun q => (Sum.inr q.1, q.2)
theorem KV.get {kvs : List (Key × V)} {vs : List (Key × Value)} : ∀ {i : Nat} {k : Key} {x : Value}, KV kvs vs → vs[i]? = some (k, x) → ∃ v, kvs[i]? = some (k, v) ∧ RelV v x := by
  intro i k x r
  induction r generalizing i with
  | nil => intro e; simp at e
  | cons h t ih =>
    intro e
    cases i with
    | zero =>
      have e' := Option.some.inj (by simpa using e)
      rename_i p q _ _
      obtain ⟨p1, p2⟩ := p
      subst e'
      have h1 : p1 = k := h.1
      subst h1
      exact ⟨p2, rfl, h.2⟩
    | succ i =>
      obtain ⟨v, e1, e2⟩ := ih (by simpa using e)
      exact ⟨v, by simpa using e1, e2⟩
def rSortedItems : List V → Hp → VK → Prop := fun xs H Q => ∃ p d kvs, xs = [.ref p] ∧ H p = some (VW p d) ∧ H d = some (.dK (encK kvs)) ∧ (kvs.map (·.1)).Nodup ∧ kvs.length < 64 ∧
  ∀ (out : List (Str × V)) (l : Addr) (ts : List V) (H' : Hp), out.Perm kvs → out.Pairwise (fun a b => a.1.cps.toList < b.1.cps.toList) → Same H H' → H' l = some (.lst ts) → H l = none → ts.length = out.length →
    (∀ (i : Nat) (q : Str × V), out[i]? = some q → ∃ a, ts[i]? = some (.ref a) ∧ H a = none ∧ H' a = some (.tup [.str q.1, q.2])) → Q (.ref l) H'
end
end L2
end
section
set_option Elab.async false
set_option linter.all false
set_option maxRecDepth 100000
set_option maxHeartbeats 1000000
namespace L2
open PySem PySem.Spec PyProof.Rows
def Its (z : Str) : It := ⟨fun i _ => i < z.cps.size, fun i H x H' => H' = H ∧ ∃ c, z.cps[i]? = some c ∧ x = .str ⟨#[c]⟩, fun i _ => i = z.cps.size⟩
theorem turn_str {P : Program} {w : World} {K : PySem.W.Frag} {tg : Expr} (it : Addr) (z : Str) (t : Tok) (ty : String) (hno : ["enumerate", "zip", "dict_itemiterator", "dict_reverseitemiterator", "odict_iterator", "itertools.zip_longest", "itertools.pairwise"].contains ty = false)
    (hW : ∀ A : Around, A.handled = none → Walks P w A it [it] [it] z.cps.size (SignAt z) (fun i h => h.IsStrIter it ty z t i))
    (hS : ∀ (A : Around) (i : Nat) (s : Shared) (Q : Value → Shared → Prop) (E : Value → Shared → Prop), s.heap.IsStrIter it ty z t i → Q (.ref it) s → wpAny (model P w) A (pyIter (.ref it)) Q E s) : Turn P w K tg (Its z) [it] it (fun i h => h.IsStrIter it ty z t i) where
  mem := by simp
  obj := fun i h st b hb => by
    have e : b = it := by simpa using hb
    subst e
    obtain ⟨o, e, c, d⟩ := st
    exact ⟨o, e, fun v z => by rw [d] at z; cases z⟩
  keep := fun i h h' st k => let ⟨o, e, r⟩ := st; ⟨o, k it (by simp) o e, r⟩
  item := by
    intro X hP hw hK hc i pins s σ H E I hf st hg
    subst hP hw hK
    obtain ⟨f0, f1, f2, f3, f4, f5⟩ := hf it (by simp)
    refine (hW X.A (I.ok.hd hc)).item i s _ _ hg st fun v h' tk hv st' kk => ?_
    obtain ⟨c, u, hcu, rfl⟩ := hv
    have I1 : Inv X pins σ H { s with heap := h', toks := tk } := I.turned (fun b o hb e => kk b o (by simpa using hb) e) f0 f1 f3 f4 f5
    obtain ⟨o, e, oc, od⟩ := id st'
    exact ⟨_, rfl, go_of (s := { s with heap := h', toks := tk }) e oc od hno ⟨.str ⟨#[c]⟩, H, I1, ⟨u, rfl⟩, ⟨rfl, c, hcu, rfl⟩, st', fun b hb => (hf b hb).1⟩⟩
  done := by
    intro X hP hw hK hc i pins s σ H E I hf st hg
    subst hP hw hK
    obtain ⟨f0, f1, f2, f3, f4, f5⟩ := hf it (by simp)
    have hi : i = z.cps.size := hg
    subst hi
    exact (hW X.A (I.ok.hd hc)).done s _ _ st fun h' tk kk => ⟨rfl, I.turned (fun b o hb e => kk b o (by simpa using hb) e) f0 f1 f3 f4 f5⟩
  self := hS
section
variable {X : Cx} {tg : Expr}
def iStr (tl : TE) : TI := fun σ H R => tl σ H fun x H1 => ∃ z, x = .str z ∧ R (Its z) H1
theorem pi_str {l : Expr} {tl : TE} (hl : PE X l tl) : PI X tg l (iStr tl) := by
  intro pins s σ H R I h
  refine thn (hl pins s σ H _ I h) fun v s1 ⟨x, H1, I1, r1, z, ez, q⟩ => ?_
  subst ez
  obtain ⟨t, rfl⟩ := r1
  have hn : ∀ b ∈ [s1.heap.objs.size], FpOk X pins H1 b := fun b hb => by
    have e : b = s1.heap.objs.size := by simpa using hb
    subst e
    exact I1.fpOk (Nat.le_refl _) (I1.hok.fresh (Nat.le_refl _))
  cases ha : z.cps.all (· < 128) with
  | false =>
    refine wpAny_pyIter_wide ha ⟨s1.heap.objs.size, [s1.heap.objs.size], _, _, H1, rfl, I1.kept (t' := s1.toks) fun b o e => Heap.get?_push_of_some _ e, turn_str _ z t "str_iterator" (by decide) (fun A hA => Walks.strWide hA _ z t) (fun A i s Q E st h => wpAny_pyIter_striter_wide st h), ⟨_, Heap.get?_push_size _ rfl, rfl, rfl⟩, hn, q⟩
  | true =>
    refine wpAny_pyIter_ascii ha ⟨s1.heap.objs.size, [s1.heap.objs.size], _, _, H1, rfl, I1.kept (t' := s1.toks) fun b o e => Heap.get?_push_of_some _ e, turn_str _ z t "str_ascii_iterator" (by decide) (fun A hA => Walks.strAscii hA _ z t) (fun A i s Q E st h => wpAny_pyIter_striter_ascii st h), ⟨_, Heap.get?_push_size _ rfl, rfl, rfl⟩, hn, q⟩
end
theorem idx_norm (lo hi : Option Int) (n : Nat) : Builtin.Str.strSliceIndices lo hi 1 n = Builtin.Str.strSliceIndices (some ((HT.sIx n 0 lo : Nat) : Int)) (some ((HT.sIx n n hi : Nat) : Int)) 1 n := by
  have hl := HT.sIx_le n 0 (Nat.zero_le _) lo
  have hh := HT.sIx_le n n (Nat.le_refl _) hi
  have key : ∀ (o : Option Int) (d : Nat), d ≤ n → (match o with | none => (d : Int) | some i => (let i := if i < 0 then i + (n : Int) else i; max 0 (min i (n : Int)))) = ((HT.sIx n d o : Nat) : Int) := by
    intro o d hd
    cases o with
    | none => rfl
    | some i =>
      show max 0 (min (if i < 0 then i + (n : Int) else i) (n : Int)) = (((if i < 0 then (i + (n : Int)).toNat else min i.toNat n) : Nat) : Int)
      by_cases h : i < 0
      · rw [if_pos h, if_pos h]; omega
      · rw [if_neg h, if_neg h]; omega
  have e1 := key lo 0 (Nat.zero_le _)
  have e2 := key hi n (Nat.le_refl _)
  have k1 : max (0 : Int) (min ((HT.sIx n 0 lo : Nat) : Int) (n : Int)) = ((HT.sIx n 0 lo : Nat) : Int) := by omega
  have k2 : max (0 : Int) (min ((HT.sIx n n hi : Nat) : Int) (n : Int)) = ((HT.sIx n n hi : Nat) : Int) := by omega
  have n1 : ¬ (((HT.sIx n 0 lo : Nat) : Int) < 0) := by omega
  have n2 : ¬ (((HT.sIx n n hi : Nat) : Int) < 0) := by omega
  unfold Builtin.Str.strSliceIndices
  simp only [show ((1 : Int) > 0) = True from by simp, if_true, n1, n2, if_false, k1, k2]
  have z1 : ∀ i : Int, (max 0 (min (if i < 0 then i + (n : Int) else i) (n : Int))) = ((HT.sIx n 0 (some i) : Nat) : Int) := fun i => key (some i) 0 (Nat.zero_le _)
  have z2 : ∀ i : Int, (max 0 (min (if i < 0 then i + (n : Int) else i) (n : Int))) = ((HT.sIx n n (some i) : Nat) : Int) := fun i => key (some i) n (Nat.le_refl _)
  have w1 : ((HT.sIx n 0 none : Nat) : Int) = 0 := rfl
  have w2 : ((HT.sIx n n none : Nat) : Int) = n := rfl
  cases lo with
  | none =>
    cases hi with
    | none => rfl
    | some j => dsimp only; rw [z2, w1]
  | some i =>
    cases hi with
    | none => dsimp only; rw [z1, w2]
    | some j =>
      dsimp only
      have zz := z1 i
      rw [zz]
      rw [z2]
theorem txt_slice (x : Str) (lo hi : Option Int) : Txt.slice x lo hi = ⟨((x.cps.toList.drop (HT.sIx x.length 0 lo)).take (HT.sIx x.length x.length hi - HT.sIx x.length 0 lo)).toArray⟩ := by
  have hl := HT.sIx_le x.length 0 (Nat.zero_le _) lo
  have hh := HT.sIx_le x.length x.length (Nat.le_refl _) hi
  unfold Txt.slice
  rw [idx_norm lo hi]
  generalize HT.sIx x.length 0 lo = a at *
  generalize HT.sIx x.length x.length hi = b at *
  have hlen : x.cps.toList.length = x.length := by simp [Str.length]
  by_cases hab : a ≤ b
  · have sp := StrLaws.sliced_plain x hab hh
    split
    · rename_i h
      rw [StrLaws.strSliceIndices_plain hab hh] at h
      have h' : b - a = x.length := by simpa using h
      have ha : a = 0 := by omega
      have hb : b = x.cps.toList.length := by omega
      subst ha
      apply MyS.Str_ext
      show x.cps.toList = ((x.cps.toList.drop 0).take (b - 0)).toArray.toList
      rw [List.drop_zero, Nat.sub_zero, hb, List.take_length]
    · rw [sp]
  · have hb : b - a = 0 := by omega
    have e : Builtin.Str.strSliceIndices (some (a : Int)) (some (b : Int)) 1 x.length = [] := by
      have h1 : ¬ ((a : Int) < 0) := by omega
      have h2 : ¬ ((b : Int) < 0) := by omega
      have e1 : max (0 : Int) (min (a : Int) (x.length : Int)) = a := by omega
      have e2 : max (0 : Int) (min (b : Int) (x.length : Int)) = b := by omega
      simp only [Builtin.Str.strSliceIndices, sliceRange, h1, h2, if_false, e1, e2, show ((1 : Int) > 0) = True from by simp, if_true]
      rw [if_neg (by omega)]
      rfl
    rw [e, hb]
    split
    · rename_i h
      have h' : 0 = x.length := by simpa using h
      omega
    · simp
section
variable {X : Cx} {e : Expr} {te : TE} {lo hi : Option Expr} {tl th : TO} {pos p2 : Pos}
def cutS (z : Str) (lo hi : Option Int) : Str := ⟨((z.cps.toList.drop (HT.sIx z.length 0 lo)).take (HT.sIx z.length z.length hi - HT.sIx z.length 0 lo)).toArray⟩
def tSlS (te : TE) (tl th : TO) : TE := fun σ H Q => te σ H fun x H1 => tl σ H1 fun l H2 => th σ H2 fun u H3 => ∃ z, x = .str z ∧ z.length ≤ sizeLine ∧ Q (.str (cutS z l u)) H3
theorem pe_sliceS (he : PE X e te) (hl : PO X lo tl) (hu : PO X hi th) : PE X (.Subscript e (.Slice lo hi none p2) pos) (tSlS te tl th) := by
  intro pins s σ H Q I h
  refine Subscript_ (thn (he pins s σ H _ I h) fun v s1 ⟨x, H1, I1, r1, q1⟩ => ?_)
  refine wpAny_Slice (thn (hl pins s1 σ H1 _ I1 q1) fun vl s2 ⟨l, H2, I2, pl, q2⟩ => thn (hu pins s2 σ H2 _ I2 q2) fun vu s3 ⟨u, H3, I3, pu, q3⟩ => ?_)
  rw [evalPart_none]
  refine wpAny_pure ?_
  obtain ⟨z, rfl, hz, q⟩ := q3
  obtain ⟨t, rfl⟩ := r1
  have hk : KeptH (fun h => ∀ b o, s3.heap.get? b = some o → h.get? b = some o) := fun h ob hP b o q => Heap.get?_push_of_some _ (hP b o q)
  have fin : ∀ h' t' k, (∀ b o, s3.heap.get? b = some o → h'.get? b = some o) → EP X pins σ Q (.str (Txt.slice z l u) t') { s3 with heap := h', toks := k } := fun h' t' k hP => by
    refine ⟨.str (cutS z l u), H3, I3.kept hP, ⟨t', ?_⟩, q⟩
    rw [txt_slice]; rfl
  have go : ItemOn (model X.prog X.w) X.A X.xe (.str z t) (.ref s3.heap.objs.size) (EP X pins σ Q) { s3 with heap := s3.heap.push { cls := .type "slice", data := .fields #[vl, vu, .none] } } := by
    cases pl with
    | none =>
      cases pu with
      | none => exact SBH.sliceItem_nn hk (fun _ _ q => q) fin hz
      | int j uj => exact SBH.sliceItem_ns hk (fun _ _ q => q) fin hz
    | int i ui =>
      cases pu with
      | none => exact SBH.sliceItem_sn hk (fun _ _ q => q) fin hz
      | int j uj => exact SBH.sliceItem_ss hk (fun _ _ q => q) fin hz
  obtain ⟨T, id, hT, ht, hg⟩ := go
  exact tail_any (ops := [.ref s3.heap.objs.size, .str z t]) ht hT hg (by with_unfolding_all rfl)
end
section
variable {X : Cx}
theorem call_all (hc : X.calm = true) : CallR X (.builtin "all") (fun xs H Q => ∃ (p : Addr) (bs : List Bool), xs = [.ref p] ∧ SqL X.K H p (bs.map V.bl) ∧ Q (.bl (bs.all id)) H) := by
  intro pins s σ H xs us Q I r h
  obtain ⟨p, bs, rfl, hq, q⟩ := h
  obtain ⟨u, rfl, ru⟩ := vals1 r
  cases ru
  obtain ⟨its, rv, pl, hz⟩ := I.list hq
  have hp : p ≠ s.heap.objs.size := by
    obtain ⟨o, n, e, _⟩ := pl
    exact Nat.ne_of_lt (Heap.lt_size e)
  have vget : ∀ (i : Nat) (v : Value), its.toArray[i]? = some v → v = .bool (bs.getD i false) := fun i v e => by
    have e' : its[i]? = some v := by simpa using e
    have hl := rv.length
    have hi : i < bs.length := by
      have := (List.getElem?_eq_some_iff.mp e').1
      simp at hl; omega
    obtain ⟨u, e1, e2⟩ := rv.get (i := i) (x := .bl (bs.getD i false)) (by rw [List.getElem?_map]; simp [hi])
    rw [e'] at e1
    cases e1
    exact e2
  refine call_all_walk (wpAny_pyIter_list pl.isList ?_)
  refine ⟨s.heap.objs.size, _, _, its.toArray.size, _, _, fun i => bs.getD i false, rfl, Walks.list (A := X.A.in1) (I.ok.hd hc) _ p hp its.toArray, ⟨⟨_, Heap.get?_push_size _ rfl, rfl, rfl⟩, ?_⟩, fun i v s' Q' E' hv hQ => ?_, fun h' tk hk => ?_⟩
  · exact pl.isList.at fun o e => Heap.get?_push_of_some _ e
  · rw [vget i v hv]; exact wpAny_truthy_bool hQ
  · refine ⟨.bl (bs.all id), H, I.kept (t' := tk) (h' := h') fun b o e => hk b o (fun z => ?_) (Heap.get?_push_of_some _ e), ?_, q⟩
    · have : b = s.heap.objs.size := by simpa using z
      exact absurd (Heap.lt_size e) (by rw [this]; exact Nat.lt_irrefl _)
    · have hl := rv.length
      have hsz : its.toArray.size = bs.length := by simp at hl; simp [hl]
      have : (List.range its.toArray.size).all (fun i => bs.getD i false) = bs.all id := by
        rw [hsz]
        rw [Bool.eq_iff_iff]
        simp only [List.all_eq_true, List.mem_range, id]
        constructor
        · intro h b hb
          obtain ⟨i, hi, e⟩ := List.getElem_of_mem hb
          have := h i hi
          simpa [hi, e] using this
        · intro h i hi
          have := h bs[i] (List.getElem_mem hi)
          simpa [hi] using this
      rw [this]; rfl
theorem preSum_take (ns : List Int) : ∀ k, k ≤ ns.length → preSum (fun i => ns.getD i 0) k = (ns.take k).sum
  | 0, _ => by simp [preSum]
  | k + 1, h => by
    show preSum (fun i => ns.getD i 0) k + ns.getD k 0 = _
    have hk : k < ns.length := h
    rw [preSum_take ns k (by omega), List.take_succ_eq_append_getElem hk, List.sum_append]
    simp [hk]
theorem call_sum (hc : X.calm = true) : CallR X (.builtin "sum") (fun xs H Q => ∃ (p : Addr) (ns : List Int), xs = [.ref p] ∧ SqL X.K H p (ns.map V.int) ∧ Q (.int ns.sum) H) := by
  intro pins s σ H xs us Q I r h
  obtain ⟨p, ns, rfl, hq, q⟩ := h
  obtain ⟨u, rfl, ru⟩ := vals1 r
  cases ru
  obtain ⟨its, rv, pl, hz⟩ := I.list hq
  have hpl : p < s.heap.objs.size := by
    obtain ⟨o, n, e, _⟩ := pl
    exact Heap.lt_size e
  have hl := rv.length
  have hsz : its.toArray.size = ns.length := by simp at hl; simp [hl]
  have hia := intsAre_of rv
  refine call_sum_walkAnyS (wpAny_pyIter_list pl.isList ?_)
  refine ⟨s.heap.objs.size, _, _, _, its.toArray.size, _, _, fun i => ns.getD i 0, rfl, (Walks.list (A := X.A.in1) (I.ok.hd hc) _ p (Nat.ne_of_lt hpl) its.toArray).toS, ⟨⟨_, Heap.get?_push_size _ rfl, rfl, rfl⟩, ?_⟩, fun b hb => ?_, fun i v hv => ?_, fun s' t' hm => ?_⟩
  · exact pl.isList.at fun o e => Heap.get?_push_of_some _ e
  · show b < (s.heap.push _).objs.size
    rw [size_push']
    rcases List.mem_cons.mp hb with e | hb
    · rw [e]; exact Nat.lt_succ_self _
    · rw [List.mem_singleton.mp hb]; exact Nat.lt_succ_of_lt hpl
  · have e' : its[i]? = some v := by simpa using hv
    have hi : i < ns.length := by
      have := (List.getElem?_eq_some_iff.mp e').1
      simp at hl; omega
    obtain ⟨u, e1, e2⟩ := rv.get (i := i) (x := .int (ns.getD i 0)) (by rw [List.getElem?_map]; simp [hi])
    rw [e'] at e1
    cases e1
    exact e2
  · have hk : ∀ b o, s.heap.get? b = some o → s'.heap.get? b = some o := fun b o e =>
      hm.heap b o (fun hI => absurd (Heap.lt_size e) (by rw [List.mem_singleton.mp hI]; exact Nat.lt_irrefl _)) (Heap.get?_push_of_some _ e)
    rw [Moved.eq_with hm]
    refine ⟨.int ns.sum, H, I.kept (h' := s'.heap) (t' := s'.toks) hk, ⟨t', ?_⟩, q⟩
    rw [hsz, preSum_take ns ns.length (Nat.le_refl _), List.take_length]
def vvObj (d : Addr) : Obj := { cls := .type "dict_values", data := .fields #[.ref d] }
def VLS (p d : Addr) : HO := .ext fun h => h.get? p = some (vvObj d)
def rValues : V → List V → Hp → VK → Prop := fun x vs H Q => ∃ d kvs, x = .ref d ∧ vs = [] ∧ H d = some (.dK kvs) ∧ ∀ p, H p = none → Q (.ref p) (upd H p (VLS p d))
theorem mt_values : MtM X "dict.values" rValues := by
  intro pins s σ H x vs v us Q I rx rv h
  obtain ⟨d, kvs, rfl, rfl, hd, q⟩ := h
  cases rx
  have hus := rv.zero
  subst hus
  obtain ⟨z, hm, ws, rel, dd⟩ := dk_of I.hok hd
  refine call_meetsIn PySem.F.slot_dict_values dd.typeIs PySem.F.entry_dict_values (PySem.F.args_dict_values_1 _) (meets_dict_values (mixKind X.prog X.w) d hm) ⟨⟨_, dd⟩, ?_⟩
  refine ⟨.ref s.heap.objs.size, _, I.laid (t' := s.toks) (o := VLS s.heap.objs.size d) (fun b o e => Heap.get?_push_of_some _ e) (Nat.le_refl _) ?_, rfl, q _ (I.hok.fresh (Nat.le_refl _))⟩
  exact ⟨Heap.get?_push_size _ rfl, ⟨_, Heap.get?_push_size _ rfl⟩, fun h1 h2 e k => k _ e⟩
theorem call_sumVals (hc : X.calm = true) : CallR X (.builtin "sum") (fun xs H Q => ∃ (p d : Addr) (kns : List (Key × Int)), xs = [.ref p] ∧ H p = some (VLS p d) ∧ H d = some (.dK (kns.map fun q => (q.1, V.int q.2))) ∧ Q (.int (kns.map (·.2)).sum) H) := by
  intro pins s σ H xs us Q I r h
  obtain ⟨p, d, kns, rfl, hp, hd, q⟩ := h
  obtain ⟨u, rfl, ru⟩ := vals1 r
  cases ru
  obtain ⟨z, hm, ws, rel, dd⟩ := dk_of I.hok hd
  obtain ⟨hv, _, _⟩ := I.hok p _ hp
  obtain ⟨ep, hat⟩ := dd.dictAt
  have hlen : ws.length = kns.length := by have := rel.length; simpa using this.symm
  have hwi : ∀ (i : Nat) (v : Value), (∃ k, ws[i]? = some (k, v)) → ∃ t, v = Value.int ((kns.map (·.2)).getD i 0) t := fun i v ⟨k, e⟩ => by
    obtain ⟨x, e1, e2⟩ := KV.get rel e
    rw [List.getElem?_map] at e1
    cases g : kns[i]? with
    | none => rw [g] at e1; cases e1
    | some q' =>
      rw [g] at e1
      have e1' : (q'.1, V.int q'.2) = (k, x) := Option.some.inj e1
      have : x = V.int q'.2 := (Prod.mk.inj e1').2.symm
      subst this
      obtain ⟨t, rfl⟩ := e2
      refine ⟨t, ?_⟩
      have : (kns.map (·.2)).getD i 0 = q'.2 := by rw [List.getD_eq_getElem?_getD, List.getElem?_map, g]; rfl
      rw [this]
  have Ks := PySem.W.kdl_values (knd := mixKind X.prog X.w) (kvs := ws) (ep := ep) (r := p) (d := d)
  obtain ⟨oI, St, hit, W, st⟩ := Ks.iter X.A.in1 s (I.ok.hd hc) ⟨⟨_, hv, rfl, rfl⟩, hat⟩
  have hth := Ks.there s.heap ⟨⟨_, hv, rfl, rfl⟩, hat⟩
  refine call_sum_walkAnyS (hit _ _ ⟨s.heap.objs.size, _, _, _, ws.length, _, _, fun i => (kns.map (·.2)).getD i 0, rfl, W.toS, st, fun b hb => ?_, hwi, fun s' t' hm => ?_⟩)
  · show b < (s.heap.push oI).objs.size
    rw [size_push']
    rcases List.mem_cons.mp hb with e | hb
    · rw [e]; exact Nat.lt_succ_self _
    · rw [List.mem_singleton.mp hb]; exact Nat.lt_succ_of_lt hth.2
  have hk : ∀ b o, s.heap.get? b = some o → s'.heap.get? b = some o := fun b o e =>
    hm.heap b o (fun hI => absurd (Heap.lt_size e) (by rw [List.mem_singleton.mp hI]; exact Nat.lt_irrefl _)) (Heap.get?_push_of_some _ e)
  rw [Moved.eq_with hm]
  refine ⟨.int (kns.map (·.2)).sum, H, I.kept (h' := s'.heap) (t' := s'.toks) hk, ⟨t', ?_⟩, q⟩
  rw [hlen, ← List.length_map (f := (·.2)) (as := kns), preSum_take _ _ (Nat.le_refl _), List.take_length]
end
end L2
end
section
set_option Elab.async false
set_option linter.all false
set_option maxRecDepth 100000
set_option maxHeartbeats 1000000
namespace L2
open PySem PySem.Spec PyProof.Rows
section
variable {X : Cx}
theorem call_isinst : CallR X (.builtin "isinstance") (fun xs H Q => ∃ x c t b, xs = [x, .ty c] ∧ TyOf X.K H x t ∧ PySem.W.kitOne X.K t (.type c) = some b ∧ Q (.bl b) H) := by
  intro pins s σ H xs us Q I r h
  obtain ⟨x, c, t, b, rfl, ty, e, q⟩ := h
  obtain ⟨u, w', rfl, rx, rc⟩ := vals2 r
  cases rc
  exact isinst_ok I rx ty e fun tk => ⟨.bl b, H, I.tok tk, rfl, q⟩
theorem strs_of {ss : List Str} : ∀ {us : List Value}, Vals (ss.map V.str) us → StrsAre us ss := by
  induction ss with
  | nil => intro us r; rw [List.map_nil] at r; cases r; exact .nil
  | cons x ss ih =>
    intro us r
    rw [List.map_cons] at r
    cases r with
    | cons r1 r2 =>
      obtain ⟨t, e⟩ := r1
      subst e
      exact .cons x t (ih r2)
def rJoin (K : PySem.W.Frag) : V → List V → Hp → VK → Prop := fun x vs H Q => ∃ (sep : Str) (l : Addr) (ss : List Str), x = .str sep ∧ vs = [.ref l] ∧ SqL K H l (ss.map V.str) ∧ (ss.map (·.length)).sum + ss.length * sep.length ≤ 16777216 ∧ Q (.str (Txt.join sep ss)) H
theorem mt_join : MtR X "str.join" (rJoin X.K) := by
  intro pins s σ H x vs v us Q I rx rv h
  obtain ⟨sep, l, ss, rfl, rfl, hq, hz, q⟩ := h
  obtain ⟨t, rfl⟩ := rx
  obtain ⟨u, rfl, ru⟩ := vals1 rv
  cases ru
  obtain ⟨its, r', pl, _⟩ := I.list hq
  exact join_list pl.isList (by simpa using strs_of r') hz fun t' k => ⟨.str (Txt.join sep ss), H, I.tok k, ⟨t', rfl⟩, q⟩
theorem foldl_app (l : List Str) : ∀ a : Array Nat, (l.foldl (fun acc p => acc ++ (⟨#[]⟩ : Str).cps ++ p.cps) a).toList = a.toList ++ (l.map (·.cps.toList)).flatten := by
  induction l with
  | nil => intro a; simp
  | cons x r ih => intro a; rw [List.foldl_cons, ih]; simp
theorem join_flat (ss : List Str) : Txt.join ⟨#[]⟩ ss = ⟨(ss.map (·.cps.toList)).flatten.toArray⟩ := by
  apply MyS.Str_ext
  show ((ss.drop 1).foldl (fun acc p => acc ++ (⟨#[]⟩ : Str).cps ++ p.cps) (ss.headD Str.empty).cps).toList = (ss.map (·.cps.toList)).flatten.toArray.toList
  rw [foldl_app]
  cases ss with
  | nil => rfl
  | cons x r => simp
def rSetD : V → List V → Hp → VK → Prop := fun x vs H Q => ∃ d kvs k v, x = .ref d ∧ vs = [kV k, v] ∧ H d = some (.dK kvs) ∧ kvs.length < sizeLine ∧ (∀ y, valV kvs k = some y → Q y H) ∧ (valV kvs k = none → Q v (upd H d (.dK (putK kvs k v))))
theorem mt_setdefault : MtM X "dict.setdefault" rSetD := by
  intro pins s σ H x vs v us Q I rx rv h
  obtain ⟨d, kvs, k, y, rfl, rfl, hd, hz, q1, q2⟩ := h
  cases rx
  obtain ⟨u, w', rfl, ru, rw'⟩ := vals2 rv
  obtain ⟨z, hm, ws, rel, dd⟩ := dk_of I.hok hd
  have hwz : ws.length ≤ sizeLine := by rw [← rel.length]; exact z
  refine call_meetsIn PySem.F.slot_dict_setdefault dd.typeIs PySem.F.entry_dict_setdefault (PySem.F.args_dict_setdefault_3 _ _ _) (kt_meets_setdefault (mixKind X.prog X.w) d (kV_is ru) hm w') ⟨ws, dd, hwz, fun v' hv => ?_, fun hn h' dd' hs => ?_⟩
  · have rr := rel.val k
    rw [hv] at rr
    cases e : valV kvs k with
    | none => rw [e] at rr; exact rr.elim
    | some y' =>
      rw [e] at rr
      exact ⟨y', H, I.tok _, rr, q1 y' e⟩
  · have rr := rel.val k
    rw [hn] at rr
    cases e : valV kvs k with
    | some y' => rw [e] at rr; exact rr.elim
    | none =>
      have he : ∃ q, h'.get? d = some q := let ⟨q, _, _, hq, _⟩ := dd'; ⟨q, hq⟩
      have hl : (putK kvs k y).length ≤ sizeLine := by have := length_putK kvs k y; omega
      exact ⟨y, _, d_write I (by rw [hd]; exact True.intro) hs he (dk_new hl hm (rel.put k rw') dd'), rw', q2 e⟩
def rSortedD : List V → Hp → VK → Prop := fun xs H Q => ∃ d kvs, xs = [.ref d] ∧ H d = some (.dK (encK kvs)) ∧ (kvs.map (·.1)).Nodup ∧ kvs.length < 64 ∧
  ∀ (out : List Str) (l : Addr), out.Perm (kvs.map (·.1)) → out.Pairwise (fun a b => a.cps.toList < b.cps.toList) → H l = none → Q (.ref l) (upd H l (.lst (out.map V.str)))
theorem call_minS (hc : X.calm = true) : CallR X (.builtin "min") (fun xs H Q => ∃ x y, xs = [.str x, .str y] ∧ Q (.str (if y.cps.toList < x.cps.toList then y else x)) H) := by
  intro pins s σ H xs us Q I r h
  obtain ⟨x, y, rfl, q⟩ := h
  obtain ⟨u, w', rfl, ⟨t, rfl⟩, ⟨t', rfl⟩⟩ := vals2 r
  have hT : (s.heap.push { cls := .type "tuple", data := .seq #[.str x t, .str y t'] }).IsTuple s.heap.objs.size #[.str x t, .str y t'] := ⟨_, Heap.get?_push_size _ rfl, rfl, 0, rfl⟩
  refine call_min_two (wpAny_pyIter_tuple hT ?_)
  have hsz : (s.heap.push { cls := .type "tuple", data := .seq #[.str x t, .str y t'] }).objs.size = s.heap.objs.size + 1 := Heap.size_push ..
  have at2 : ∀ (i : Nat) (v : Value), (#[Value.str x t, .str y t'] : Array Value)[i]? = some v → ∃ tk, v = .str (if i = 0 then x else y) tk := fun i v e => by
    match i, e with
    | 0, e => have : Value.str x t = v := by simpa using e
              exact ⟨t, this.symm⟩
    | 1, e => have : Value.str y t' = v := by simpa using e
              exact ⟨t', this.symm⟩
    | i + 2, e => simp at e
  refine ⟨_, [_, s.heap.objs.size], [_], _, _, _, fun i j => decide ((if i = 0 then x else y).cps.toList < (if j = 0 then x else y).cps.toList), rfl, Walks.tuple (A := X.A.in1) (I.ok.hd hc) _ s.heap.objs.size (by rw [hsz]; exact Nat.ne_of_lt (Nat.lt_succ_self _)) #[.str x t, .str y t'],
    ⟨⟨_, Heap.get?_push_size _ rfl, rfl, rfl⟩, hT.push _⟩, fun c hcm => ?_, by simp, fun i j vi vj s' Q' E' hi hj hQ => ?_, fun v h' tk hP hk => ?_⟩
  · show c < ((s.heap.push _).push _).objs.size
    rw [Heap.size_push, hsz]
    rcases List.mem_cons.mp hcm with rfl | hcm
    · rw [hsz]; exact Nat.lt_succ_self _
    · rcases List.mem_cons.mp hcm with rfl | hcm
      · exact Nat.lt_succ_of_lt (Nat.lt_succ_self _)
      · cases hcm
  · obtain ⟨a, rfl⟩ := at2 i vi hi
    obtain ⟨b, rfl⟩ := at2 j vj hj
    exact lt_str hQ
  · have hold : ∀ c o, s.heap.get? c = some o → h'.get? c = some o := fun c o e => by
      refine hk c o (fun hm => ?_) (Heap.get?_push_of_some _ (Heap.get?_push_of_some _ e))
      have hlt := Heap.lt_size e
      have : c = (s.heap.push { cls := .type "tuple", data := .seq #[.str x t, .str y t'] }).objs.size := by simpa using hm
      rw [hsz] at this
      exact absurd hlt (by rw [this]; exact Nat.not_lt.mpr (Nat.le_succ _))
    refine ⟨.str (if y.cps.toList < x.cps.toList then y else x), H, I.kept hold, ?_, q⟩
    obtain ⟨tk', e⟩ := at2 _ v hP
    refine ⟨tk', ?_⟩
    rw [e]
    congr 1
    show (if argBest (fun i j => decide ((if i = 0 then x else y).cps.toList < (if j = 0 then x else y).cps.toList)) 1 = 0 then x else y) = _
    show (if (if decide (y.cps.toList < x.cps.toList) = true then 1 else 0) = 0 then x else y) = _
    by_cases hlt : y.cps.toList < x.cps.toList
    · simp [hlt]
    · simp [hlt]
theorem op_catT0 : OpR X (binaryOp .Add) (fun x y H Q => ∃ a b ys, x = .ref a ∧ y = .ref b ∧ SqT X.K H a [] ∧ SqT X.K H b ys ∧ Q (.ref b) H) := by
  intro pins s σ H x y v u Q I rx ry h
  obtain ⟨a, b, ys, rfl, rfl, ha, hb, q⟩ := h
  cases rx
  cases ry
  obtain ⟨its, r1, p1, _⟩ := I.tuple ha
  obtain ⟨its2, r2, p2, _⟩ := I.tuple hb
  have e0 : its = [] := by cases r1; rfl
  subst e0
  obtain ⟨⟨cls, dd, data, sl⟩, ho, hc, n, hd⟩ := id p1
  obtain ⟨⟨cls2, dd2, data2, sl2⟩, ho2, hc2, n2, hd2⟩ := id p2
  simp only at hc hd hc2 hd2
  subst hc hd hc2 hd2
  exact concat_meets ⟨_, ho, rfl⟩ ⟨_, ho2, rfl⟩ noFill_tuple_add seq_tuple_add PySem.F.slot_tuple_add PySem.F.entry_tuple_add (PySem.F.args_tuple_add_2 _ _)
    (tuple_addW0 a b _ its2.toArray n n2 dd dd2 sl sl2 (by simp)) ⟨ho, ho2, ⟨.ref b, H, I, rfl, q⟩⟩
end
section
variable {prog : Program} {w : World} {A : Around} {E : Value → Shared → Prop} {s : Shared}
end
section
variable {X : Cx} {e st : Expr} {te ts : TE} {pos p2 : Pos}
def tRevT (K : PySem.W.Frag) (te ts : TE) : TE := fun σ H Q => te σ H fun x H1 => ts σ H1 fun y H2 => ∃ a xs, x = .ref a ∧ y = .int (-1) ∧ SqT K H2 a xs ∧ ∀ p, H2 p = none → Q (.ref p) (upd H2 p (.tup xs.reverse))
end
end L2
end
section
set_option Elab.async false
set_option linter.all false
set_option maxRecDepth 100000
set_option maxHeartbeats 1000000
namespace L2
open PySem PySem.Spec PyProof.Rows
structure Known (J : It) (items : List V) (Hk : Hp → Prop) : Prop where
  go : ∀ i H, Hk H → i < items.length → J.go i H
  yld : ∀ i H x H', Hk H → J.yld i H x H' → H' = H ∧ (i < items.length → items[i]? = some x)
  stop : ∀ H, Hk H → J.stop items.length H
theorem known_range (lo : Int) (n : Nat) : Known (Itr lo n) ((List.range n).map fun (i : Nat) => V.int (lo + (i : Int))) (fun _ => True) :=
  ⟨fun i H _ h => by show i < n; simpa using h, fun i H x H' _ h => ⟨h.1, fun hi => by
    have hi' : i < n := by simpa using hi
    rw [List.getElem?_map, List.getElem?_range hi', h.2]; rfl⟩, fun H _ => by show n ≤ _; simp⟩
theorem known_list (K : PySem.W.Frag) (a : Addr) (xs : List V) : Known (Itl K a) xs (fun H => SqL K H a xs) :=
  ⟨fun i H h hi => ⟨xs, xs[i], h, List.getElem?_eq_getElem hi⟩, fun i H x H' h y => ⟨y.1, fun _ => y.2 xs h⟩, fun H h => ⟨xs, h, Nat.le_refl _⟩⟩
theorem known_tup (K : PySem.W.Frag) (a : Addr) (xs : List V) : Known (Itt K a) xs (fun H => SqT K H a xs) :=
  ⟨fun i H h hi => ⟨xs, xs[i], h, List.getElem?_eq_getElem hi⟩, fun i H x H' h y => ⟨y.1, fun _ => y.2 xs h⟩, fun H h => ⟨xs, h, Nat.le_refl _⟩⟩
theorem known_str (z : Str) : Known (Its z) (z.cps.toList.map fun c => V.str ⟨#[c]⟩) (fun _ => True) :=
  ⟨fun i H _ h => by show i < z.cps.size; simpa using h, fun i H x H' _ h => ⟨h.1, fun _ => by
    obtain ⟨c, e1, e2⟩ := h.2
    rw [List.getElem?_map, Array.getElem?_toList, e1, e2]; rfl⟩, fun H _ => by show _ = z.cps.size; simp⟩
theorem comp_known {J : It} {items : List V} {Hk : Hp → Prop} (kn : Known J items Hk) {caps : List Nat} {n : Nat} {σ : St} {g : TG} {tc : TT} {te : TE} {F : List V → Hp → Prop} {H1 : Hp} (cv : St) (k : Nat) (hn : items.length < 1000)
    (Pv : Nat → List V → Hp → Prop) (h0 : Pv 0 [] H1) (hk : ∀ i acc H, i ≤ items.length → Pv i acc H → Hk H ∧ acc.length ≤ i)
    (turn : ∀ (i : Nat) (x : V) (acc : List V) (H : Hp) (ys : St) (Nx : List V → St → Hp → Prop), (∀ acc' H' zs, zs.length = k → Pv (i + 1) acc' H' → Nx acc' (cv ++ zs) H') → items[i]? = some x → ys.length = k → Pv i acc H →
      g x (cv ++ ys) H fun σ2 H3 => tc σ2 H3 fun b H4 => if b = true then te σ2 H4 fun y H5 => Nx (acc ++ [y]) σ2 H5 else Nx acc σ2 H4)
    (fin : ∀ acc H, Pv items.length acc H → F acc H) (hcv : capStart caps n σ = cv ++ List.replicate k none := by rfl) :
    ∃ W : Nat → Nat → List V → St → Hp → Prop, (∃ m, W 0 m [] (capStart caps n σ) H1) ∧ ∀ i m acc σ' H', W i m acc σ' H' →
      (J.stop i H' ∧ F acc H') ∨
      (J.go i H' ∧ acc.length < sizeLine ∧ ∀ x H2, J.yld i H' x H2 → g x σ' H2 fun σ2 H3 => tc σ2 H3 fun b H4 => if b = true then te σ2 H4 fun y H5 => ∃ m', m' < m ∧ W (i + 1) m' (acc ++ [y]) σ2 H5 else ∃ m', m' < m ∧ W (i + 1) m' acc σ2 H4) := by
  refine ⟨fun i m acc σ' H' => i ≤ items.length ∧ m = items.length - i ∧ (∃ ys, ys.length = k ∧ σ' = cv ++ ys) ∧ Pv i acc H', ⟨items.length, Nat.zero_le _, rfl, ⟨_, by simp, hcv⟩, h0⟩, ?_⟩
  rintro i m acc σ' H' ⟨hi, rfl, ⟨ys, hy, rfl⟩, pv⟩
  obtain ⟨hH, ha⟩ := hk i acc H' hi pv
  by_cases e : i = items.length
  · subst e
    exact .inl ⟨kn.stop H' hH, fin acc H' pv⟩
  · have hi' : i < items.length := by omega
    refine .inr ⟨kn.go i H' hH hi', by rw [sizeLine_eq]; omega, fun x H2 hy2 => ?_⟩
    obtain ⟨e2, e3⟩ := kn.yld i H' x H2 hH hy2
    subst e2
    exact turn i x acc H2 ys (fun acc' σ2 H5 => ∃ m', m' < items.length - i ∧ (i + 1 ≤ items.length ∧ m' = items.length - (i + 1) ∧ (∃ ys, ys.length = k ∧ σ2 = cv ++ ys) ∧ Pv (i + 1) acc' H5)) (fun acc' H5 zs hz p => ⟨items.length - (i + 1), by omega, by omega, rfl, ⟨zs, hz, rfl⟩, p⟩) (e3 hi') hy pv
theorem comp_known0 {J : It} {items : List V} {Hk : Hp → Prop} (kn : Known J items Hk) {caps : List Nat} {n : Nat} {σ : St} {g : TG} {te : TE} {F : List V → Hp → Prop} {H1 : Hp} (cv : St) (k : Nat) (hn : items.length < 1000)
    (Pv : Nat → List V → Hp → Prop) (h0 : Pv 0 [] H1) (hk : ∀ i acc H, i ≤ items.length → Pv i acc H → Hk H ∧ acc.length ≤ i)
    (turn : ∀ (i : Nat) (x : V) (acc : List V) (H : Hp) (ys : St) (Nx : List V → St → Hp → Prop), (∀ acc' H' zs, zs.length = k → Pv (i + 1) acc' H' → Nx acc' (cv ++ zs) H') → items[i]? = some x → ys.length = k → Pv i acc H →
      g x (cv ++ ys) H fun σ2 H3 => te σ2 H3 fun y H5 => Nx (acc ++ [y]) σ2 H5)
    (fin : ∀ acc H, Pv items.length acc H → F acc H) (hcv : capStart caps n σ = cv ++ List.replicate k none := by rfl) :
    ∃ W : Nat → Nat → List V → St → Hp → Prop, (∃ m, W 0 m [] (capStart caps n σ) H1) ∧ ∀ i m acc σ' H', W i m acc σ' H' →
      (J.stop i H' ∧ F acc H') ∨
      (J.go i H' ∧ acc.length < sizeLine ∧ ∀ x H2, J.yld i H' x H2 → g x σ' H2 fun σ2 H3 => tYes σ2 H3 fun b H4 => if b = true then te σ2 H4 fun y H5 => ∃ m', m' < m ∧ W (i + 1) m' (acc ++ [y]) σ2 H5 else ∃ m', m' < m ∧ W (i + 1) m' acc σ2 H4) := by
  refine comp_known kn cv k hn Pv h0 hk (fun i x acc H ys Nx hN hx hy p => ?_) fin hcv
  have := turn i x acc H ys Nx hN hx hy p
  have e : (fun (σ2 : St) (H3 : Hp) => tYes σ2 H3 fun b H4 => if b = true then te σ2 H4 fun y H5 => Nx (acc ++ [y]) σ2 H5 else Nx acc σ2 H4) = fun σ2 H3 => te σ2 H3 fun y H5 => Nx (acc ++ [y]) σ2 H5 := by
    funext σ2 H3
    unfold tYes
    exact if_pos rfl
  rw [e]
  exact this
theorem for_known {J : It} {items : List V} {Hk : Hp → Prop} (kn : Known J items Hk) {g : TG} {tb : TS} {D : Ends} {σ : St} {H : Hp} (Pv : Nat → St → Hp → Prop) (h0 : Pv 0 σ H) (hk : ∀ i σ H, i ≤ items.length → Pv i σ H → Hk H)
    (turn : ∀ (i : Nat) (x : V) (σ : St) (H : Hp) (Nx : St → Hp → Prop), (∀ σ' H', Pv (i + 1) σ' H' → Nx σ' H') → items[i]? = some x → Pv i σ H → g x σ H fun σ2 H2 => tb { D with nx := Nx, ct := Nx, bk := D.nx } σ2 H2)
    (fin : ∀ σ H, Pv items.length σ H → D.nx σ H) :
    ∃ W : Nat → Nat → St → Hp → Prop, (∃ m, W 0 m σ H) ∧ ∀ i m σ H, W i m σ H →
      (J.stop i H ∧ D.nx σ H) ∨ (J.go i H ∧ ∃ N : St → Hp → Prop, (∀ σ' H', N σ' H' → ∃ m', m' < m ∧ W (i + 1) m' σ' H') ∧ ∀ x H', J.yld i H x H' → g x σ H' fun σ2 H2 => tb { D with nx := N, ct := N, bk := D.nx } σ2 H2) := by
  refine ⟨fun i m σ H => i ≤ items.length ∧ m = items.length - i ∧ Pv i σ H, ⟨items.length, Nat.zero_le _, rfl, h0⟩, ?_⟩
  rintro i m σ H ⟨hi, rfl, pv⟩
  have hH := hk i σ H hi pv
  by_cases e : i = items.length
  · subst e
    exact .inl ⟨kn.stop H hH, fin σ H pv⟩
  · have hi' : i < items.length := by omega
    refine .inr ⟨kn.go i H hH hi', Pv (i + 1), fun σ' H' p => ⟨items.length - (i + 1), by omega, by omega, rfl, p⟩, fun x H2 hy2 => ?_⟩
    obtain ⟨e2, e3⟩ := kn.yld i H x H2 hH hy2
    subst e2
    exact turn i x σ H2 (Pv (i + 1)) (fun _ _ p => p) (e3 hi') pv
theorem iteD {c A B : Prop} [Decidable c] (hc : c) (h : A) : if decide c = true then A else B := by
  rw [if_pos (decide_eq_true hc)]; exact h
theorem iteDF {c A B : Prop} [Decidable c] (hc : ¬ c) (h : B) : if decide c = true then A else B := by
  rw [if_neg (fun z => hc (of_decide_eq_true z))]; exact h
theorem Same.upd_new {H H' : Hp} {a : Addr} {o : HO} (e : Same H H') (h : H a = none) : Same H (upd H' a o) := fun b u q => by
  rw [upd_ne (ne_of_none q h)]; exact e b u q
theorem Same.upd1 {H : Hp} {a : Addr} {o : HO} (h : H a = none) : Same H (upd H a o) := (Same.refl H).upd_new h
def capOk (sc : Scope) (XN N : List Str) (scope : Scope) : Nat → List Nat → Bool
  | _, [] => true
  | i, c :: cs => (match N[i]? with
    | some x => decide (XN[c]? = some x) && decide (scope.names.lookup x = some .free) && (decide (sc.names.lookup x = some .cell) || decide (sc.names.lookup x = some .free))
    | none => false) && capOk sc XN N scope (i + 1) cs
def compOk (sc : Scope) (XN N : List Str) (scope : Scope) (caps : List Nat) : Bool :=
  decide (scope.kind = .function) && decide N.Nodup && scope.names.all (fun y => decide (y.2 ≠ .cell)) && scope.names.all (fun y => decide (y.2 = .local → scope.names.lookup y.1 = some .local)) &&
  scope.names.all (fun y => decide (y.2 = .free → sc.names.lookup y.1 = some .cell ∨ sc.names.lookup y.1 = some .free)) && capOk sc XN N scope 0 caps && decide (caps.length ≤ N.length)
theorem capOk_get {sc : Scope} {XN N : List Str} {scope : Scope} : ∀ {caps : List Nat} {j : Nat}, capOk sc XN N scope j caps = true → ∀ i, i < caps.length →
    ∃ x, N[j + i]? = some x ∧ XN[caps.getD i 0]? = some x ∧ scope.names.lookup x = some .free ∧ (sc.names.lookup x = some .cell ∨ sc.names.lookup x = some .free)
  | [], _, _, i, hi => by simp at hi
  | c :: cs, j, h, i, hi => by
    unfold capOk at h
    rw [Bool.and_eq_true] at h
    obtain ⟨h1, h2⟩ := h
    cases i with
    | zero =>
      cases e : N[j]? with
      | none => rw [e] at h1; cases h1
      | some x =>
        rw [e] at h1
        simp only [Bool.and_eq_true, Bool.or_eq_true, decide_eq_true_eq] at h1
        exact ⟨x, by simpa using e, by simpa using h1.1.1, h1.1.2, h1.2⟩
    | succ i =>
      obtain ⟨x, a, b, c', d⟩ := capOk_get h2 i (by simpa using hi)
      exact ⟨x, by rw [← a]; congr 1; omega, by simpa using b, c', d⟩
theorem compScope_of {sc : Scope} {XN N : List Str} {scope : Scope} {caps : List Nat} (h : compOk sc XN N scope caps = true) : CompScope sc XN N scope caps := by
  unfold compOk at h
  simp only [Bool.and_eq_true, decide_eq_true_eq, List.all_eq_true] at h
  obtain ⟨⟨⟨⟨⟨⟨a, b⟩, c⟩, d⟩, e⟩, f⟩, g⟩ := h
  exact ⟨a, b, c, d, e, fun i hi => by simpa using capOk_get f i hi, g⟩
end L2
end
section
set_option Elab.async false
set_option linter.all false
set_option maxRecDepth 100000
set_option maxHeartbeats 1000000
namespace L2
open PySem PySem.Spec PyProof.Rows
section
variable {X : Cx} {pins : List (Addr × Obj)} {σ : St} {H : Hp} {s : Shared}
end
def Ite (K : PySem.W.Frag) (a : Addr) : It :=
  ⟨fun i H => ∃ xs x, SqL K H a xs ∧ xs[i]? = some x, fun i H x H' => ∃ T y, x = .ref T ∧ H T = none ∧ H' = upd H T (.tup [.int i, y]) ∧ ∀ xs, SqL K H a xs → xs[i]? = some y, fun i H => ∃ xs, SqL K H a xs ∧ xs.length = i⟩
section
variable {X : Cx} {elts : List Expr} {k : Nat} {tpos : Pos}
def iEnum (K : PySem.W.Frag) (ta : TA) : TI := fun σ H R => ta σ H fun vs H1 => ∃ a xs, vs = [.ref a] ∧ H1 a = some (.lst xs) ∧ R (Ite K a) H1
end
section
variable {X : Cx} {e st : Expr} {te ts : TE} {pos p2 : Pos}
def tRevL (K : PySem.W.Frag) (te ts : TE) : TE := fun σ H Q => te σ H fun x H1 => ts σ H1 fun y H2 => ∃ a xs, x = .ref a ∧ y = .int (-1) ∧ SqL K H2 a xs ∧ ∀ p, H2 p = none → Q (.ref p) (upd H2 p (.lst xs.reverse))
end
end L2
end
section
set_option Elab.async false
set_option linter.all false
set_option maxRecDepth 100000
set_option maxHeartbeats 1000000
namespace L2
open PySem PySem.Spec PyProof.Rows
def PrAt (h : Heap) (D : Addr) (v : Value) (k : Str) (x : Value) : Prop := ∃ b o t n, v = Value.ref b ∧ b ≠ D ∧ h.get? b = some o ∧ o.cls = .type "tuple" ∧ o.data = .seq #[.str k t, x] n
section
variable {prog : Program} {w : World} {A : Around} {R : Result → Shared → Prop}
end
section
variable {X : Cx}
def PrsAt (K : PySem.W.Frag) (H : Hp) (ts : List V) (kvs : List (Str × V)) : Prop := ts.length = kvs.length ∧ ∀ (i : Nat) (q : Str × V), kvs[i]? = some q → ∃ a, ts[i]? = some (.ref a) ∧ SqT K H a [.str q.1, q.2]
theorem KV.enc {kvs : List (Str × V)} {ws : List (Str × Value)} (h : KV kvs ws) : KV (encK kvs) (ws.map fun q => ((Sum.inr q.1 : Key), q.2)) := by
  induction h with
  | nil => exact .nil
  | cons h t ih => exact .cons ⟨congrArg Sum.inr h.1, h.2⟩ ih
def rDictL (K : PySem.W.Frag) : List V → Hp → VK → Prop := fun xs H Q => ∃ p ts kvs, xs = [.ref p] ∧ SqL K H p ts ∧ PrsAt K H ts kvs ∧ (kvs.map (·.1)).Nodup ∧ kvs.length ≤ 1000 ∧ ∀ d, H d = none → Q (.ref d) (upd H d (.dK (encK kvs)))
def rSortedP (K : PySem.W.Frag) : List V → Hp → VK → Prop := fun xs H Q => ∃ p ts kvs, xs = [.ref p] ∧ SqL K H p ts ∧ PrsAt K H ts kvs ∧ (kvs.map (·.1)).Nodup ∧ kvs.length < 64 ∧
  ∀ (pm : List Nat) (l : Addr), pm.Perm (List.range kvs.length) → (pm.map fun i => (kvs.getD i (⟨#[]⟩, .non)).1.cps.toList).Pairwise (· < ·) → H l = none → Q (.ref l) (upd H l (.lst (pm.map fun i => ts.getD i .non)))
end
end L2
end
section
set_option Elab.async false
set_option linter.all false
set_option maxRecDepth 100000
set_option maxHeartbeats 1000000
namespace L2
open PySem PySem.Spec PyProof.Rows
structure Flown (P : Program) (w : World) (outer : List Env) (H : Hp) (s : Shared) (e : Addr) (cls a0 : Value) (B : Heap) (H' : Hp) (s' : Shared) : Prop where
  os : s'.os = s.os
  bare : AllBare s'.gens
  fly : Heap.FlyingW B outer e cls a0 s'.heap
  trB : ∀ b u, H' b = some u → ∃ o, B.get? b = some o
  hok : HOk P w H' s'.heap
  keep : ∀ b o, s.heap.get? b = some o → H b = none → b ∉ frs outer → B.get? b = some o
  slot : ∀ b o, s.heap.get? b = some o → b ∈ frs outer → H b = none → ∃ sl, s'.heap.get? b = some { o with slots := sl }
  free : ∀ b o, s.heap.get? b = some o → H b = none → H' b = none
  there : ∀ b o, s.heap.get? b = some o → b ∉ frs outer → ∃ o', B.get? b = some o'
  tups : ∀ b xs, H b = some (.tup xs) → H' b = some (.tup xs)
  frzs : ∀ b o u, H b = some (.frz o u) → H' b = some (.frz o u)
  tbls : ∀ b ps, H b = some (.tbl ps) → ∃ more, H' b = some (.tbl (ps ++ more))
  ef : H' e = none
def CXr (P : Program) (w : World) : CXT := fun outer H s E ev s' => ∃ (e : Addr) (cls a0 : Value) (B : Heap) (H' : Hp), ev = .ref e ∧ Flown P w outer H s e cls a0 B H' s' ∧ E cls none H'
section
variable {P : Program} {w : World} {outer : List Env} {H H' : Hp} {s s' : Shared} {e : Addr} {cls a0 : Value} {B h' : Heap}
theorem hok_stays (ok : HOk P w H' s'.heap) (trB : ∀ b u, H' b = some u → ∃ o, B.get? b = some o) (st : B.StaysIn s'.heap) (st' : B.StaysIn h') : HOk P w H' h' := fun a u q => by
  refine (ok a u q).stay (fun b v hb r => ?_) (fun _ z => z) fun _ _ z => z
  have hb' : ∃ u', H' b = some u' := by
    rcases hb with z | z
    · rw [z]; exact ⟨u, q⟩
    · exact ⟨_, z⟩
  obtain ⟨u', hu'⟩ := hb'
  obtain ⟨o, ho⟩ := trB b u' hu'
  have := st b o ho
  rw [r] at this
  cases this
  exact st' b _ ho
theorem Flown.un (F : Flown P w outer H s e cls a0 B H' s') (frf : ∀ b ∈ frs outer, H b = none) : Un (frs outer) [] H H' s.heap s'.heap where
  keep := fun b o q n hb _ => F.fly.1 b o (F.keep b o q n hb)
  slot := fun b o q n hb _ => F.slot b o q hb n
  free := fun b o q n _ => F.free b o q n
  there := fun b o q _ => by
    by_cases hb : b ∈ frs outer
    · obtain ⟨sl, z⟩ := F.slot b o q hb (frf b hb)
      exact ⟨_, z⟩
    · obtain ⟨o', z⟩ := F.there b o q hb
      exact ⟨o', F.fly.1 b o' z⟩
  tups := F.tups
  frzs := F.frzs
  tbls := F.tbls
theorem Flown.on {outer : List Env} (F : Flown P w outer H s e cls a0 B H' s') (fly : Heap.FlyingW B outer e cls a0 h') (up : s'.heap.UpToSlots h') (fun' : s'.heap.FunFrames B outer) : Flown P w outer H s e cls a0 B H' { s' with heap := h' } where
  os := F.os
  bare := F.bare
  fly := fly
  trB := F.trB
  hok := hok_stays F.hok F.trB F.fly.1 fly.1
  keep := F.keep
  slot := fun b o q hb n => by
    obtain ⟨sl, z⟩ := F.slot b o q hb n
    obtain ⟨_, o', ho', hd⟩ := fun'.mem hb
    rw [z] at ho'
    cases ho'
    obtain ⟨sl', z'⟩ := up b _ z hd
    exact ⟨sl', z'⟩
  free := F.free
  there := F.there
  tups := F.tups
  frzs := F.frzs
  tbls := F.tbls
  ef := F.ef
end
section
variable {X : Cx} {pins : List (Addr × Obj)} {σ : St} {H H' : Hp} {s s' : Shared} {e : Addr} {cls a0 : Value} {B h' : Heap}
theorem Inv.nstk (I : Inv X pins σ H s) {b : Addr} {o : Obj} (q : X.s₀.heap.get? b = some o) (hb : b ∉ X.fs) : b ∉ frs X.stack := fun z => by
  rcases List.mem_cons.mp (I.stkSub b z) with r | r
  · exact absurd (Nat.lt_of_lt_of_le (Heap.lt_size q) I.ok.above) (by rw [r]; exact Nat.lt_irrefl _)
  · exact hb r
theorem sub_stk (hs : X.stack = X.env :: X.outer) {b : Addr} (hb : b ∈ X.fs) : b ∈ frs X.stack := by
  rw [hs]
  unfold frs
  rw [List.filterMap_cons]
  cases X.env.frame with
  | none => exact hb
  | some L => exact List.mem_cons_of_mem _ hb
theorem Flown.leaves (I : Inv X pins σ H s) (hs : X.stack = X.env :: X.outer) (hf : X.env.frame = some X.env.locals) (hx : X.ex = []) (F : Flown X.prog X.w X.stack H s e cls a0 B H' s') {Q : Unit → Shared → Prop} {E : Value → Shared → Prop} {M : Model}
    (hQ : ∀ s'', Flown X.prog X.w X.outer X.H₀ X.s₀ e cls a0 B H' s'' → Q () s'') : wpAny M X.A (leaving X.env (.ref e)) Q E s' := by
  have fly := F.fly
  rw [hs] at fly
  have fun' := F.fly.2.2.1
  refine wpAny_leaves_onW (by rw [← hs]; exact I.ok.frames) hf fly fun h' fly' up => hQ _ ?_
  have nex : ∀ b : Addr, b ∉ X.ex := fun b z => by rw [hx] at z; cases z
  refine ⟨F.os.trans I.os, F.bare, fly', F.trB, hok_stays F.hok F.trB F.fly.1 fly'.1, fun b o q n hb => ?_, fun b o q hb n => ?_, fun b o q n => ?_, fun b o q hb => ?_, fun b xs q => F.tups b xs (I.base.tups b xs q), fun b o u q => F.frzs b o u (I.base.frzs b o u q), fun b ps q => ?_, F.ef⟩
  · exact F.keep b o (I.base.keep b o q n hb (nex b)) (I.base.free b o q n (nex b)) (I.nstk q hb)
  · obtain ⟨sl, z⟩ := I.base.slot b o q n hb (nex b)
    obtain ⟨sl', z'⟩ := F.slot b _ z (sub_stk hs hb) (I.base.free b o q n (nex b))
    obtain ⟨_, o', ho', hd⟩ := fun'.mem (show b ∈ X.stack.filterMap (·.frame) from sub_stk hs hb)
    rw [z'] at ho'
    cases ho'
    obtain ⟨sl'', z''⟩ := up b _ z' hd
    exact ⟨sl'', z''⟩
  · obtain ⟨o', z⟩ := I.base.there b o q (nex b)
    exact F.free b o' z (I.base.free b o q n (nex b))
  · obtain ⟨o', z⟩ := I.base.there b o q (nex b)
    exact F.there b o' z (I.nstk q hb)
  · obtain ⟨m1, e1⟩ := I.base.tbls b ps q
    obtain ⟨m2, e2⟩ := F.tbls b _ e1
    exact ⟨m1 ++ m2, by rw [e2, Array.append_assoc]⟩
theorem made_leaves {C : Addr} {vs : List Value} (I : Inv X pins σ H s) (hs : X.stack = X.env :: X.outer) (hf : X.env.frame = some X.env.locals) (hx : X.ex = []) (hm : Heap.MadeExcOf s.heap h' e (.ref C) vs) {Q : Unit → Shared → Prop} {E : Value → Shared → Prop} {M : Model}
    (hQ : ∀ s'' a0 B, Flown X.prog X.w X.outer X.H₀ X.s₀ e (.ref C) a0 B H s'' → Q () s'') : wpAny M X.A (leaving X.env (.ref e)) Q E { s with heap := h' } := by
  have fr := I.stack
  have hin : ∀ env ∈ X.stack, ∀ b, env.frame = some b → b ∈ frs X.stack := fun env he b hb => List.mem_filterMap.mpr ⟨env, he, hb⟩
  have fr' := PySem.W.funFrames_hide (as := frs X.stack) fr hin
  rw [hs] at fr'
  have nex : ∀ b : Addr, b ∉ X.ex := fun b z => by rw [hx] at z; cases z
  refine wpAny_leaves_madeW (base := PySem.W.hideAll s.heap (frs X.stack)) (by rw [← hs]; exact I.ok.frames) hf (fun b o q => PySem.W.of_hideAll _ q) (by rw [hs]; exact fr') hm fun h2 t fly tup bt up => hQ _ (.ref t) (PySem.W.hideAll s.heap (frs X.stack)) ?_
  have trB : ∀ b u, H b = some u → ∃ o, (PySem.W.hideAll s.heap (frs X.stack)).get? b = some o := fun b u q => by
    obtain ⟨o, ho⟩ := (I.hok b u q).obj
    exact ⟨o, PySem.W.hideAll_get _ ho fun z => by rw [I.stkFree b z] at q; cases q⟩
  have stS : (PySem.W.hideAll s.heap (frs X.stack)).StaysIn s.heap := fun b o q => PySem.W.of_hideAll _ q
  refine ⟨I.os, I.bare, fly, trB, hok_stays (s' := s) I.hok trB stS fly.1, fun b o q n hb => ?_, fun b o q hb n => ?_, fun b o q n => I.base.free b o q n (nex b), fun b o q hb => ?_, I.base.tups, I.base.frzs, I.base.tbls, I.hok.free hm.new⟩
  · exact PySem.W.hideAll_get _ (I.base.keep b o q n hb (nex b)) (I.nstk q hb)
  · obtain ⟨sl, z⟩ := I.base.slot b o q n hb (nex b)
    obtain ⟨_, o', ho', hd⟩ := fr.mem (show b ∈ X.stack.filterMap (·.frame) from sub_stk hs hb)
    rw [z] at ho'
    cases ho'
    obtain ⟨sl'', z''⟩ := up b _ (hm.keeps b _ z) hd
    exact ⟨sl'', z''⟩
  · obtain ⟨o', z⟩ := I.base.there b o q (nex b)
    exact ⟨o', PySem.W.hideAll_get _ z (I.nstk q hb)⟩
end
structure XOk (X : Cx) (E : XK) : Prop where
  made : ∀ (pins : List (Addr × Obj)) (σ : St) (H : Hp) (s : Shared) (h' : Heap) (e C : Addr) (vs : List Value), Inv X pins σ H s → Heap.MadeExcOf s.heap h' e (.ref C) vs → E (.ref C) none H → X.xe (.ref e) { s with heap := h' }
  pass : Passes (CXr X.prog X.w) X E
theorem xok_fn {P : Program} {w : World} {K : PySem.W.Frag} {mg : Str → Option Value} {base : Heap} {N : List Str} {qual : Str} {scope : Scope} {f : Addr} {cd : Value} {A : Around} {outer : List Env} {s : Shared} {H : Hp} {E : XK} :
    XOk (cxOf (CXr P w) P w K mg base N qual scope f cd A outer s H E) E where
  made := fun pins σ H1 s1 h' e C vs I hm hE => made_leaves I rfl rfl rfl hm fun s'' a0 B F => ⟨e, _, a0, B, H1, rfl, F, hE⟩
  pass := fun pins σ H1 s1 ev s' I ⟨e, cls, a0, B, H', he, F, hE⟩ => by
    subst he
    exact Flown.leaves I rfl rfl rfl F fun s'' F' => ⟨e, cls, a0, B, H', rfl, F', hE⟩
abbrev veMro : List Value := [.type "ValueError", .type "Exception", .type "BaseException", .type "object"]
structure XCls (K : PySem.W.Frag) (mg : Str → Option Value) (x : Str) (C : Addr) : Prop where
  bound : mg x = some (.ref C)
  exc : PySem.W.excIn K C veMro "ValueError.__new__" = true
theorem xcls_obj {K : PySem.W.Frag} {h : Heap} {C : Addr} {newId : String} {bmB : List Value} (X : K.In h) (q : PySem.W.excIn K C bmB newId = true) :
    ∃ bm N nm q bs hdct sn sub ab col dd k0 k1 k2 k3 k5 mN, h.get? C = some (excClassObj nm q C N bs bm hdct sn sub ab col dd k0 k1 k2 k3 k5 newId) ∧ h.Ns N mN ∧ mN "__init__" = none ∧ OwnTail h bmB bm ∧ ∃ cd, K.lookup C = some ⟨.type "type", dd, .cls cd, #[k0, k1, k2, k3, some (.builtin newId), k5]⟩ ∧ cd.mro = .ref C :: bm := by
  unfold PySem.W.excIn at q
  split at q
  · rename_i dd cd sl ho
    split at q
    · rename_i C' bm k0 k1 k2 k3 n k5 hm hs
      simp only [Bool.and_eq_true, beq_iff_eq, Bool.not_eq_true'] at q
      obtain ⟨⟨⟨⟨⟨rfl, rfl⟩, hdel⟩, ht⟩, hok⟩, hni⟩ := q
      obtain ⟨nm, bs, mro, ns, qn, hd, sn, sub, ab, col, del⟩ := cd
      dsimp only at hm hdel hok hni
      subst hm hdel
      have hsl : sl = #[k0, k1, k2, k3, some (.builtin n), k5] := by
        obtain ⟨l⟩ := sl
        simp only at hs
        rw [hs]
      subst hsl
      exact ⟨bm, ns, nm, qn, bs, hd, sn, sub, ab, col, dd, k0, k1, k2, k3, k5, _, X _ _ ho, .of_isNs (PySem.W.isNs_of_in X hok), PySem.W.nsMap_none_of_in X hok hni, PySem.W.tail_of_in X ht, _, ho, rfl⟩
    · cases q
  · cases q
def tRaise (C : Addr) (E : XK) (t : TA) : TS := fun _ σ H => t σ H fun vs H1 => vs.length ≤ sizeLine ∧ E (.ref C) none H1
section
variable {X : Cx}
theorem ps_raise {E : XK} {x : Str} {C : Addr} {np cpos pos : Pos} {e0 : Expr} {es : List Expr} {t : TA} (ok : XOk X E) (hc : X.calm = true) (O : XCls X.K X.mg x C) (hg : Gl X x) (ha : PA X (e0 :: es) t)
    (he : starEach (e0 :: es) X.env = (false, eval e0 X.env) :: starEach es X.env := by rfl) (hplain : (backTo cpos (starEach es X.env)).any (·.1) = false := by rfl) (hdb : (x == ("__debug__" : Str)) = false := by decide) :
    PS X (.Raise (some (.Call (.Name x np) (e0 :: es) [] cpos)) none pos) (tRaise C E t) := by
  intro pins s σ H D I h
  obtain ⟨tl, N, nm, q, bs, hdct, sn, sub, ab, col, dd, k0, k1, k2, k3, k5, mN, hC, hN, hni, T, _⟩ := xcls_obj I.mod.kin O.exc
  refine wpAny_Raise_call_subU (C := C) (nm := nm) (q := q) (N := N) (bs := bs) (bm := tl) (hdct := hdct) (sn := sn) (sub := sub) (ab := ab) (col := col) (dd := dd) (k0 := k0) (k1 := k1) (k2 := k2) (k3 := k3) (k5 := k5)
    PySem.F.excBase_ValueError (by decide) PySem.F.excBase_ValueError (mN := mN) (T.hasType PySem.F.excBase_ValueError.hasBase) (I.ok.hd hc) (by rw [he]; show (false || (backTo cpos (starEach es X.env)).any (·.1)) = false; rw [hplain]; rfl) hni ?_
  refine ld_glob I hg O.bound ⟨rfl, ?_⟩ hdb
  have hpa := ha cpos pins s σ H _ I h
  rw [he] at hpa ⊢
  refine Calls.evalArgs_plain (wpAny_mono hpa (fun vs s₂ h₂ => ?_) fun _ _ y => y)
  obtain ⟨us, H1, I1, r, q1⟩ := h₂
  exact ⟨rfl, by rw [← r.length]; exact q1.1, I1.bk _ _ hC, hN.keeps I1.bk, T.keeps I1.bk, fun h' e hm => ok.made pins σ H1 s₂ h' e C vs I1 hm q1.2⟩
end
section
variable {P : Program} {w : World} {K : PySem.W.Frag} {mg : Str → Option Value} {base : Heap}
theorem Fun.okR {x qual : Str} {st : Stmt} {f : Addr} {fd : FuncData} {N ps : List Str} {k : Nat} {sp : Sp} (F : Fun K x qual st f fd) (S : FnScope N ps (defScope st)) (len : ∀ vs H Q E, sp vs H Q E → vs.length = ps.length)
    (hbody : ∀ (cdv : Value) (A : Around) (outer : List Env) (s : Shared) (H : Hp) (vs : List V) (Q : VK) (E : XK), Room k (A.deeper (envOfC qual (defScope st) s.heap.objs.size f cdv)) → sp vs H Q E → XOk (cxOf (CXr P w) P w K mg base N qual (defScope st) f cdv A outer s H E) E →
      ∃ t, PSs (cxOf (CXr P w) P w K mg base N qual (defScope st) f cdv A outer s H E) (defBody st) t ∧ t { nx := fun _ H' => Q .non H', rt := Q } (start N vs) H) : FnOk P w K mg base (CXr P w) (k + 1) f fd ps sp := by
  obtain ⟨oc, od, kV, doc, pm, an, cdv, ct, osl, rfl, lk, hcd⟩ := F.ex
  refine fn_of lk hcd S len fun A outer s H vs Q E hr hsp => ?_
  exact hbody cdv A outer s H vs Q E hr hsp xok_fn
def CalR (P : Program) (w : World) (K : PySem.W.Frag) (mg : Str → Option Value) (base : Heap) (k : Nat) (x : Str) (ps : List Str) (sp : Sp) : Prop :=
  ∃ (f : Addr) (fd : FuncData), FnOk P w K mg base (CXr P w) k f fd ps sp ∧ mg x = some (.ref f) ∧ PySem.W.keepIn K (.ref f) = true ∧ Binds K fd ps []
theorem pe_calR {X : Cx} {k : Nat} {x : Str} {ps : List Str} {sp : Sp} {p pos : Pos} {e : Expr} {es : List Expr} {t : TA} {E : XK} (C : CalR X.prog X.w X.K X.mg X.base k x ps sp) (ok : Passes (CXr X.prog X.w) X E) (hr : Room k X.A) (hg : Gl X x) (ha : PA X (e :: es) t)
    (hs : starEach (e :: es) X.env = (false, eval e X.env) :: starEach es X.env := by rfl) (hplain : (backTo pos (starEach es X.env)).any (·.1) = false := by rfl)
    (hdb : (x == ("__debug__" : Str)) = false := by decide) : PE X (.Call (.Name x p) (e :: es) [] pos) (tCall sp [] E t) := by
  obtain ⟨f, fd, G, hm, kp, b⟩ := C
  exact pe_call G hr hg hm kp b .nil ok ha hdb hs hplain
end
def XO (e C : Addr) : HO := .ext fun h => ∃ oe vs, h.get? e = some oe ∧ oe.cls = .ref C ∧ oe.data = .fields vs
section
variable {M : Model} {A : Around} {E : Value → Shared → Prop} {h : Heap} {g : Array GenState} {d : Drawn} {t : Nat} {os : OsState}
theorem exc_matches_own {nm q : Str} {C N : Addr} {bs bm : List Value} {hdct : Bool} {sn : List Str} {sub : List Value} {ab : Bool} {col : Option Bool} {dd : Option Addr} {k0 k1 k2 k3 k5 : Option Value} {newId : String}
    {nm' q' : Str} {L N' : Addr} {bs' bm' : List Value} {hdct' : Bool} {sn' : List Str} {sub' : List Value} {ab' : Bool} {col' : Option Bool} {dd' : Option Addr} {j0 j1 j2 j3 j5 : Option Value} {newId' : String} {e : Addr} {oe : Obj} {Q : Bool → Shared → Prop}
    (hC : h.get? C = some (excClassObj nm q C N bs bm hdct sn sub ab col dd k0 k1 k2 k3 k5 newId)) (hL : h.get? L = some (excClassObj nm' q' L N' bs' bm' hdct' sn' sub' ab' col' dd' j0 j1 j2 j3 j5 newId')) (he : h.get? e = some oe) (hcls : oe.cls = .ref C) (hbase : bm'.contains (.type "BaseException") = true)
    (hin : (Value.ref C :: bm).contains (.ref L) = true) (hq : Q true ⟨h, g, d, t, os⟩) : wpAny M A (excMatches (.ref e) (.ref L)) Q E ⟨h, g, d, t, os⟩ := by
  have hcB : (Value.ref L :: bm').contains (.type "BaseException") = true := by rw [List.contains_cons, hbase, Bool.or_true]
  have f := tc_notTuple
  unfold excMatches
  repeat (first | (with_reducible refine wpAny_loadPart_at he ?_; rw [hcls]) | with_reducible refine wpAny_loadPart_at hL ?_ | (with_reducible refine wpAny_isSubtype_exc hL ?_; rw [hcB]) | (with_reducible refine wpAny_isSubtype_exc hC ?_; rw [hin]) | wp_step)
  exact hq
end
abbrev Cx.hand (X : Cx) (e : Addr) : Cx := { X with A := X.A.mark (some (.ref e)), calm := false, xe := fun _ _ => False }
section
variable {X : Cx} {pins : List (Addr × Obj)} {σ : St} {H : Hp} {s : Shared} {e : Addr}
theorem Inv.hand (I : Inv X pins σ H s) (e : Addr) : Inv (X.hand e) pins σ H s :=
  ⟨⟨I.ok.mod, I.ok.kind, I.ok.glob, I.ok.blt, I.ok.above, I.ok.inj, I.ok.has, I.ok.cab, (fun z => by cases z), I.ok.frames, I.ok.stk, I.ok.exf, I.ok.bs, I.ok.bsz, I.ok.noex, I.ok.exfs, I.ok.funs, I.ok.frf⟩, I.os, I.bare, I.base, I.loc, I.cell, I.free, I.freeC, I.pin, I.hok, I.len⟩
theorem Inv.unhand (I : Inv (X.hand e) pins σ H s) (ok : X.Ok) : Inv X pins σ H s :=
  ⟨ok, I.os, I.bare, I.base, I.loc, I.cell, I.free, I.freeC, I.pin, I.hok, I.len⟩
theorem Inv.track {a : Addr} {o : HO} (I : Inv X pins σ H s) (hn : H a = none) (hnew : ∀ b ob, X.s₀.heap.get? b = some ob → b ≠ a) (hL : X.env.locals ≠ a) (hc : ∀ x c, X.env.cells.lookup x = some c → c ≠ a) (hp : ∀ p ∈ X.pn ++ pins, p.1 ≠ a)
    (new : ObjOk X.prog X.w (upd H a o) s.heap a o) : Inv X pins σ (upd H a o) s :=
  ⟨I.ok, I.os, I.bare, ⟨I.base.keep, I.base.slot, fun b ob q n hx => by rw [upd_ne (hnew b ob q)]; exact I.base.free b ob q n hx, I.base.there, fun b xs q => by rw [upd_ne (ne_of_none (I.base.tups b xs q) hn)]; exact I.base.tups b xs q,
    fun b ob u q => by rw [upd_ne (ne_of_none (I.base.frzs b ob u q) hn)]; exact I.base.frzs b ob u q, fun b ps q => let ⟨m, z⟩ := I.base.tbls b ps q; ⟨m, by rw [upd_ne (ne_of_none z hn)]; exact z⟩⟩, I.loc, I.cell, by rw [upd_ne hL]; exact I.free,
    fun x c q => by rw [upd_ne (hc x c q)]; exact I.freeC x c q, fun p q => let ⟨a1, a2, a3⟩ := I.pin p q; ⟨a1, by rw [upd_ne (hp p q)]; exact a2, a3⟩, I.hok.track hn new, I.len⟩
theorem Inv.forget {h' : Heap} {m' : Str → Option Value} {t' : Nat} (I : Inv X pins σ H s) (hn' : h'.Ns X.env.locals m') (hs : Heap.SameBut X.env.locals s.heap h') : Inv X pins (List.replicate X.N.length none) H { s with heap := h', toks := t' } := by
  obtain ⟨m, hn, _⟩ := id I.loc
  obtain ⟨oL, _, _, hoL, _⟩ := id hn
  have cne := I.cne
  have tracked : HOk X.prog X.w H h' := fun b ob q => by
    refine (I.hok b ob q).stay (fun c w' hc r => (hs.2 c ?_).trans r) (fun _ z => z) fun _ _ z => z
    rintro rfl
    rcases hc with z | z
    · have := I.free
      rw [z, q] at this; cases this
    · rw [I.free] at z; cases z
  have neL : ∀ b o, X.s₀.heap.get? b = some o → b ≠ X.env.locals := fun b o e => Nat.ne_of_lt (Nat.lt_of_lt_of_le (Heap.lt_size e) I.ok.above)
  refine ⟨I.ok, I.os, I.bare, ⟨fun b o e n hb hx => ?_, fun b o e n hb hx => ?_, I.base.free, fun b o e hx => ?_, I.base.tups, I.base.frzs, I.base.tbls⟩, ⟨m', hn', fun i x v e1 e2 e3 => ?_⟩, fun y c e => ?_, I.free, I.freeC, fun p hp => ?_, tracked, by simp⟩
  · exact (hs.2 b (neL b o e)).trans (I.base.keep b o e n hb hx)
  · obtain ⟨sl, e1⟩ := I.base.slot b o e n hb hx
    exact ⟨sl, (hs.2 b (neL b o e)).trans e1⟩
  · obtain ⟨o', e1⟩ := I.base.there b o e hx
    exact ⟨o', (hs.2 b (neL b o e)).trans e1⟩
  · rw [List.getElem?_replicate] at e2
    split at e2 <;> cases e2
  · obtain ⟨w', z⟩ := I.cell y c e
    exact ⟨w', z.sameBut hs (cne y c e)⟩
  · obtain ⟨e, n, ne, nf, d⟩ := I.pin p hp
    exact ⟨(hs.2 p.1 ne).trans e, n, ne, nf, d⟩
def subOf (K : PySem.W.Frag) (C L : Addr) : Bool := match K.lookup C with
  | some ⟨_, _, .cls cd, _⟩ => cd.mro.contains (.ref L)
  | _ => false
theorem catches {H' : Hp} {s' : Shared} {C L : Addr} {a0 : Value} {B : Heap} {x n : Str} {i : Nat} {np pos : Pos} {b0 : Stmt} {suite : List Stmt} {D : Ends} (I : Inv X pins σ H s) (hs : X.stack = X.env :: X.outer) (hf : X.env.frame = some X.env.locals) (hx : X.ex = [])
    (F : Flown X.prog X.w X.stack H s e (.ref C) a0 B H' s') (hC : PySem.W.excIn X.K C veMro "ValueError.__new__" = true) (O : XCls X.K X.mg x L) (hsub : subOf X.K C L = true) (hg : Gl X x) (hN : X.N.Nodup) (hi : X.N[i]? = some n) (hl : X.env.scope.names.lookup n = some .local)
    (k : ∀ s2, Inv (X.hand e) pins ((List.replicate X.N.length none).set i (some (.ref e))) (upd H' e (XO e C)) s2 → H' e = none →
      wpAny (model X.prog X.w) (X.hand e).A (execs (b0 :: suite) X.env) (SP (X.hand e) pins { nx := fun _ _ => False, rt := D.rt }) (fun _ _ => False) s2) (hdb : (x == ("__debug__" : Str)) = false := by decide) :
    wpAny (model X.prog X.w) X.A (noteFrame (.ref e) X.env) (fun _ s2 => wpAny (model X.prog X.w) X.A (setFlight (.ref e) none) (fun _ s3 =>
      wpAny (model X.prog X.w) X.A (handleBy (.ref e) X.env [.ExceptHandler (some (.Name x np)) (some n) (b0 :: suite) pos]) (SP X pins D) X.xe s3) X.xe s2) X.xe s' := by
  have fly := F.fly
  have fun' := F.fly.2.2.1
  rw [hs] at fly
  refine wpAny_looks_onW (by rw [← hs]; exact I.ok.frames) hf fly fun h4 held up4 => ?_
  refine wpAny_landsW held fun h5 fly5 up5 => ?_
  have F5 := F.on (h' := h5) (by rw [hs]; exact fly5) (up4.trans up5) fun'
  have I5 : Inv X pins σ H' { s' with heap := h5 } := I.call' F5.os (F5.un I.stkFree) F5.hok F5.bare (fun b z => nomatch z)
  obtain ⟨tl, N, nm, q, bs, hdct, sn, sub, ab, col, dd, k0, k1, k2, k3, k5, mN, hC1, _, _, _, cd, hlk, hmro⟩ := xcls_obj I.mod.kin hC
  obtain ⟨tl', N', nm', q', bs', hdct', sn', sub', ab', col', dd', j0, j1, j2, j3, j5, mN', hL1, _, _, T', _⟩ := xcls_obj I.mod.kin O.exc
  have hin : (Value.ref C :: tl).contains (.ref L) = true := by
    unfold subOf at hsub
    rw [hlk] at hsub
    rw [← hmro]
    exact hsub
  have Ih := I5.hand e
  refine wpAny_handleBy_cons (codeAny_handlers_test (ld_glob (X := X.hand e) Ih hg O.bound ?_ hdb)) (by intro z; cases z)
  obtain ⟨oe, ws, hoe, hoec, hoed, _⟩ := fly5.first
  have hm : ∀ {Q : Bool → Shared → Prop} {E' : Value → Shared → Prop}, Q true { s' with heap := h5 } → wpAny (model X.prog X.w) (X.A.mark (some (.ref e))) (excMatches (.ref e) (.ref L)) Q E' { s' with heap := h5 } := fun {Q E'} hq => by
    obtain ⟨hp, gg, ddd, tt, oo⟩ := s'
    exact exc_matches_own (I5.bk _ _ hC1) (I5.bk _ _ hL1) hoe hoec (T'.hasType PySem.F.excBase_ValueError.hasBase) hin hq
  refine hm ?_
  refine codeAny_handlers_suite_as (lands_againW fly5 fun h6 fly6 up6 => ?_)
  have F6 := F5.on (h' := h6) (by rw [hs]; exact fly6) up6 (by rw [hs]; exact fly5.2.2.1)
  have I6 : Inv X pins σ H' { s' with heap := h6 } := I.call' F6.os (F6.un I.stkFree) F6.hok F6.bare (fun b z => nomatch z)
  obtain ⟨oe6, ws6, hoe6, hoec6, hoed6, _⟩ := fly6.first
  have neB : ∀ b o, s.heap.get? b = some o → b ≠ e := fun b o q z => by
    by_cases hb : b ∈ frs X.stack
    · obtain ⟨_, o', ho', hd⟩ := fun'.mem (show b ∈ X.stack.filterMap (·.frame) from hb)
      obtain ⟨oe', ws', he', _, hed', _⟩ := F.fly.first
      rw [z, he'] at ho'
      cases ho'
      exact hd ws' hed'
    · obtain ⟨o', ho'⟩ := F.there b o q hb
      rw [z, F.fly.2.1] at ho'
      cases ho'
  have I7 : Inv X pins σ (upd H' e (XO e C)) { s' with heap := h6 } := by
    refine I6.track F.ef (fun b ob q z => ?_) (fun z => ?_) (fun y c q z => ?_) (fun p hp z => ?_) ⟨⟨oe6, ws6, hoe6, hoec6, hoed6⟩, ⟨oe6, hoe6⟩, fun h1 h2 ⟨o1, v1, a1, a2, a3⟩ kk => ⟨o1, v1, kk _ a1, a2, a3⟩⟩
    · obtain ⟨o', z'⟩ := I.base.there b ob q (by rw [hx]; simp)
      exact neB b o' z' z
    · obtain ⟨m, ⟨o, es, ep, ho, _⟩, _⟩ := I.loc
      exact neB _ o ho z
    · obtain ⟨v, o, ho, _⟩ := I.cell y c q
      exact neB _ o ho z
    · obtain ⟨a1, _⟩ := I.pin p hp
      exact neB _ _ a1 z
  have I8 : Inv X pins (List.replicate X.N.length none) (upd H' e (XO e C)) { s' with heap := h6 } := I7.weak (by rw [List.length_replicate, I7.len]) fun j v q => by
    rw [List.getElem?_replicate] at q
    split at q <;> cases q
  refine store_ok (X := X.hand e) (v := .ref e) (I8.hand e) hN hi (.inl hl) rfl (fun s2 I9 => ?_) (.inr hl)
  refine wpAny_mono (k s2 I9 F.ef) (fun f s3 h3 => ?_) fun _ _ z => z.elim
  cases f with
  | next => obtain ⟨_, _, _, z⟩ := h3; exact z.elim
  | brk => obtain ⟨_, _, _, z⟩ := h3; exact z.elim
  | cont => obtain ⟨_, _, _, z⟩ := h3; exact z.elim
  | ret u =>
    obtain ⟨v, σ', H2, I10, r, z⟩ := h3
    have I11 := I10.unhand I.ok
    obtain ⟨m, hn, _⟩ := id I11.loc
    refine wpAny_nameGoes hl hn (by rw [I.ok.kind]; rfl) fun h' m' hn' hs' => ?_
    exact ⟨v, _, H2, I11.forget hn' hs', r, z⟩
def tTry (K : PySem.W.Frag) (N : Nat) (i : Nat) (L : Addr) (tb : XK → TS) (ts : TS) : TS := fun D σ H =>
  tb (fun cls _ H' => ∃ C : Addr, cls = .ref C ∧ PySem.W.excIn K C veMro "ValueError.__new__" = true ∧ subOf K C L = true ∧ ∀ e, H' e = none → ts { nx := fun _ _ => False, rt := D.rt } ((List.replicate N none).set i (some (.ref e))) (upd H' e (XO e C))) D σ H
abbrev Cx.tryb (X : Cx) (ET : Value → Shared → Prop) (pn : List (Addr × Obj)) : Cx := { X with xe := ET, pn := pn }
theorem Inv.tryb (I : Inv X pins σ H s) (ET : Value → Shared → Prop) : Inv (X.tryb ET (X.pn ++ pins)) [] σ H s :=
  ⟨⟨I.ok.mod, I.ok.kind, I.ok.glob, I.ok.blt, I.ok.above, I.ok.inj, I.ok.has, I.ok.cab, I.ok.hd, I.ok.frames, I.ok.stk, I.ok.exf, I.ok.bs, I.ok.bsz, I.ok.noex, I.ok.exfs, I.ok.funs, I.ok.frf⟩, I.os, I.bare, I.base, I.loc, I.cell, I.free, I.freeC, fun p hp => I.pin p (by
    have hp' : p ∈ (X.pn ++ pins) ++ [] := hp
    rw [List.append_nil] at hp'
    exact hp'), I.hok, I.len⟩
theorem Inv.untryb {ET : Value → Shared → Prop} {pins' : List (Addr × Obj)} (I : Inv (X.tryb ET (X.pn ++ pins)) pins' σ H s) (ok : X.Ok) : Inv X pins σ H s :=
  ⟨ok, I.os, I.bare, I.base, I.loc, I.cell, I.free, I.freeC, fun p hp => I.pin p (List.mem_append_left _ hp), I.hok, I.len⟩
theorem ps_try {x n : Str} {i : Nat} {L : Addr} {np pos pos' : Pos} {body : List Stmt} {b0 : Stmt} {suite : List Stmt} {tb : XK → TS} {ts : TS} (hs : X.stack = X.env :: X.outer) (hf : X.env.frame = some X.env.locals) (hx : X.ex = []) (O : XCls X.K X.mg x L) (hg : Gl X x) (hN : X.N.Nodup) (hi : X.N[i]? = some n) (hl : X.env.scope.names.lookup n = some .local)
    (hb : ∀ (E : XK) (ET : Value → Shared → Prop) (pn : List (Addr × Obj)), Passes (CXr X.prog X.w) (X.tryb ET pn) E → PSs (X.tryb ET pn) body (tb E)) (hsu : ∀ e, PSs (X.hand e) (b0 :: suite) ts) (hdb : (x == ("__debug__" : Str)) = false := by decide) :
    PS X (.Try body [.ExceptHandler (some (.Name x np)) (some n) (b0 :: suite) pos] [] [] pos') (tTry X.K X.N.length i L tb ts) := by
  intro pins s σ H D I h
  refine wpAny_Try_except ?_
  have main := hb _ (fun ev s1 => wpAny (model X.prog X.w) X.A (noteFrame ev X.env) (fun _ s2 => wpAny (model X.prog X.w) X.A (setFlight ev none) (fun _ s3 =>
      wpAny (model X.prog X.w) X.A (handleBy ev X.env [.ExceptHandler (some (.Name x np)) (some n) (b0 :: suite) pos]) (SP X pins D) X.xe s3) X.xe s2) X.xe s1) (X.pn ++ pins) ?pass [] s σ H D (I.tryb _) h
  case pass =>
    rintro pins' σ' H1 s1 ev s' I1 ⟨e, cls, a0, B, H', rfl, F, C, rfl, hC, hsub, hts⟩
    have I2 := I1.untryb I.ok
    exact catches I2 hs hf hx F hC O hsub hg hN hi hl (fun s2 I9 hn => hsu e pins s2 _ _ _ I9 (hts e hn)) hdb
  refine wpAny_mono main (fun f s1 h1 => ?_) fun ev s1 h1 => h1
  have h2 : SP X pins D f s1 := by
    cases f with
    | next => obtain ⟨σ', H', J, q⟩ := h1; exact ⟨σ', H', J.untryb I.ok, q⟩
    | brk => obtain ⟨σ', H', J, q⟩ := h1; exact ⟨σ', H', J.untryb I.ok, q⟩
    | cont => obtain ⟨σ', H', J, q⟩ := h1; exact ⟨σ', H', J.untryb I.ok, q⟩
    | ret u => obtain ⟨v, σ', H', J, r, q⟩ := h1; exact ⟨v, σ', H', J.untryb I.ok, r, q⟩
  cases f with
  | next => exact wpAny_execs_nil h2
  | ret u => exact h2
  | brk => exact h2
  | cont => exact h2
end
structure RoomB (k : Nat) (A : Around) : Prop where
  dp : A.depth + 3 * k + 5 < recursionLimit
  un : A.units + 16 * k + 200 < cLine
theorem RoomB.deeper {k : Nat} {A : Around} (r : RoomB (k + 1) A) (env : Env) : RoomB k (A.deeper env) :=
  ⟨by have := r.dp; show A.depth + 1 + 3 * k + 5 < _; omega, by have := r.un; show A.units + 3 + 16 * k + 200 < _; omega⟩
theorem RoomB.depth {k : Nat} {A : Around} (r : RoomB k A) : A.depth < recursionLimit := by have := r.dp; omega
theorem RoomB.units {k : Nat} {A : Around} (r : RoomB k A) : A.units + 64 < cLine := by have := r.un; omega
theorem Room.busy {k : Nat} {A : Around} (r : Room k A) (v : Option Value) : RoomB k (A.mark v) := ⟨r.dp, r.un⟩
def cxB (CX : CXT) (P : Program) (w : World) (K : PySem.W.Frag) (mg : Str → Option Value) (base : Heap) (N : List Str) (qual : Str) (scope : Scope) (f : Addr) (cd : Value) (A : Around) (outer : List Env) (s : Shared) (H : Hp) (E : XK) : Cx :=
  { cxOf CX P w K mg base N qual scope f cd A outer s H E with calm := false }
structure FnB (P : Program) (w : World) (K : PySem.W.Frag) (mg : Str → Option Value) (base : Heap) (CX : CXT) (k : Nat) (f : Addr) (fd : FuncData) (ps : List Str) (sp : Sp) : Prop where
  len : ∀ vs H Q E, sp vs H Q E → vs.length = ps.length
  run : ∀ (A : Around) (outer : List Env) (s : Shared) (H : Hp) (args : Args) (us : List Value) (vs : List V) (Q : VK) (E : XK), RoomB k A → Env0 P w K mg base A outer s H → BindsTo s fd args (ps.zip us) → Vals vs us → sp vs H Q E →
    codeAny (model P w) A (.call (.ref f) args) (CR CX outer P w H s Q E) s
theorem inv_startB {CX : CXT} {P : Program} {w : World} {K : PySem.W.Frag} {mg : Str → Option Value} {base : Heap} {N ps : List Str} {qual : Str} {scope : Scope} {f : Addr} {cd : Value} {A : Around} {outer : List Env} {s s1 : Shared} {H : Hp} {E : XK} {us : List Value} {vs : List V}
    (S : FnScope N ps scope) (e0 : Env0 P w K mg base A outer s H) (hl : vs.length = ps.length) (r : Vals vs us)
    (x : InCallC s s.heap.objs.size (bindL (envOfC qual scope s.heap.objs.size f cd).kindOf (ps.zip us) fun _ => none) (cellsFrom (s.heap.objs.size + 1) scope.names []) (bindC (envOfC qual scope s.heap.objs.size f cd).kindOf (ps.zip us) fun _ => none) s1) :
    Inv (cxB CX P w K mg base N qual scope f cd A outer s H E) [] (start N vs) H s1 := by
  have hpl : ps.length ≤ N.length := by have := congrArg List.length S.pre; rw [List.length_take] at this; omega
  obtain ⟨h1, tk, rfl, hk⟩ := x.done
  have noA : ∀ b : Addr, b ∉ (cxB CX P w K mg base N qual scope f cd A outer s H E).ex := fun b z => absurd (show b ∈ ([] : List Addr) from z) (by simp)
  refine ⟨⟨e0.mod, S.kind, rfl, rfl, Nat.le_refl _, fun y z c h1 h2 => ?_, fun y hy => ?_, fun y c _ h => ?_, (fun z => by cases z), Around.frames_deeper e0.frames, .inr ⟨rfl, rfl⟩, fun b z => absurd z (noA b), e0.bs, e0.bsz, fun b _ _ => noA b, fun b z => absurd z (noA b), e0.funs, e0.frf⟩,
    rfl, e0.bare, Un.kept hk, ⟨_, x.toInCall.ns, fun i y v h1 h2 h3 => ?_⟩, fun y c h => ⟨_, x.cell y c h⟩, e0.hok.fresh (Nat.le_refl _), fun y c h => ?_, fun p hp => absurd (show p ∈ ([] : List (Addr × Obj)) from hp) (by simp), e0.hok.kept hk, ?_⟩
  · exact name_of_addr x.apart (PySem.mem_of_lookup h1) (PySem.mem_of_lookup h2)
  · have hy : scope.names.lookup y = some .cell ∨ scope.names.lookup y = some .free := hy
    rcases hy with hy | hy
    · exact cell_has hy
    · exact absurd rfl (S.nofree _ (PySem.mem_of_lookup hy))
  · exact Nat.le_of_lt (x.above y c (PySem.mem_of_lookup h))
  · have hi : i < vs.length := by
      unfold start at h2
      by_cases hi : i < vs.length
      · exact hi
      · rw [List.getElem?_append_right (by simpa using hi)] at h2
        rw [List.getElem?_replicate] at h2
        split at h2 <;> cases h2
    have ha : vs[i]? = some v := by
      unfold start at h2
      rw [List.getElem?_append_left (by simpa using hi), List.getElem?_map] at h2
      cases e : vs[i]? with
      | none => rw [e] at h2; cases h2
      | some a => rw [e] at h2; cases h2; rfl
    obtain ⟨u, hu, rv⟩ := r.get ha
    have hp : ps[i]? = some y := by
      rw [← S.pre, List.getElem?_take_of_lt (by omega)]; exact h1
    have ndP : ps.Nodup := by rw [← S.pre]; exact S.nd.sublist (List.take_sublist _ _)
    refine ⟨u, rv, ?_⟩
    rcases S.par y (List.mem_of_getElem? hp) with k | k
    · exact .inl ⟨k, bindL_get ndP hp hu k⟩
    · obtain ⟨c, e⟩ := cell_has (n := s.heap.objs.size + 1) k
      refine .inr ⟨.inl k, c, e, ?_⟩
      have q := x.cell y c e
      rw [bindC_get ndP hp hu (by show scope.names.lookup y ≠ _; rw [k]; decide)] at q
      exact q
  · exact e0.hok.fresh (Nat.le_of_lt (x.above y c (PySem.mem_of_lookup h)))
  · unfold start
    show _ = N.length
    rw [List.length_append, List.length_map, List.length_replicate]
    omega
theorem fn_ofB {CX : CXT} {P : Program} {w : World} {K : PySem.W.Frag} {mg : Str → Option Value} {base : Heap} {k : Nat} {f : Addr} {name qual : Str} {params : Arguments} {body : List Stmt} {scope : Scope} {dV kV doc pm cdv ct oc : Value} {an od : Option Addr}
    {osl : Array (Option Value)} {N ps : List Str} {sp : Sp} (lk : K.lookup f = some ⟨oc, od, .func (PySem.W.fnOf name qual params body scope dV kV doc pm an cdv ct), osl⟩) (hcd : PySem.W.codeIn K cdv qual = true) (S : FnScope N ps scope)
    (len : ∀ vs H Q E, sp vs H Q E → vs.length = ps.length)
    (hbody : ∀ (A : Around) (outer : List Env) (s : Shared) (H : Hp) (vs : List V) (Q : VK) (E : XK), RoomB k (A.deeper (envOfC qual scope s.heap.objs.size f cdv)) → sp vs H Q E →
      ∃ t, PSs (cxB CX P w K mg base N qual scope f cdv A outer s H E) body t ∧ t { nx := fun _ H' => Q .non H', rt := Q } (start N vs) H) :
    FnB P w K mg base CX (k + 1) f (PySem.W.fnOf name qual params body scope dV kV doc pm an cdv ct) ps sp := by
  refine ⟨len, fun A outer s H args us vs Q E hr e0 hb r hsp => ?_⟩
  have hl := len _ _ _ _ hsp
  have KX : K.In s.heap := e0.mod.kin.keeps fun b o e => (e0.bs b o e).1
  have lim : s.heap.NoLimit := e0.mod.nolimit.keeps fun b o e => (e0.bs b o e).1
  have hkind : ∀ y ∈ ps.zip us, scope.names.lookup y.1 = some .local ∨ (scope.names.lookup y.1 = some .cell ∧ ((cellsFrom (s.heap.objs.size + 1) scope.names []).lookup y.1).isSome = true) := fun ⟨n, v⟩ hy => by
    rcases S.par n (List.of_mem_zip hy).1 with q | q
    · exact .inl q
    · exact .inr ⟨q, PySem.W.cellsFrom_some _ _ _ (.inl q)⟩
  refine codeAny_call_function hr.depth (KX _ _ lk) rfl S.co S.gen rfl (PySem.W.codeRec_of KX hcd) (hb _ _ _ _ ?_)
  refine wpAny_newFunctionEnv_cells S.kind hkind fun env he s1 x => ?_
  subst he
  refine ⟨lim.keeps x.toInCall.keep, codeAny_func ?_⟩
  obtain ⟨t, ht, hq⟩ := hbody A outer s H vs Q E (hr.deeper _) hsp
  have I : Inv (cxB CX P w K mg base N qual scope f cdv A outer s H E) [] (start N vs) H s1 := inv_startB S e0 hl r x
  refine wpAny_mono (ht [] s1 (start N vs) H _ I hq) (fun fl s' hs => ?_) fun e s' hs => hs
  have fin : ∀ {σ' : St} {H' : Hp} {v : V} {u : Value}, Inv (cxB CX P w K mg base N qual scope f cdv A outer s H E) [] σ' H' s' → RelV v u → Q v H' → CE outer P w H s Q u s' :=
    fun {σ' H' v u} J rv q => ⟨v, H', J.os, J.bare, J.base, J.hok, rv, q⟩
  cases fl with
  | ret u =>
    obtain ⟨v, σ', H', J, rv, q⟩ := hs
    exact fin J rv q
  | next =>
    obtain ⟨σ', H', J, q⟩ := hs
    exact fin (v := V.non) (u := Value.none) J rfl q
  | brk =>
    obtain ⟨_, _, _, q⟩ := hs
    exact False.elim q
  | cont =>
    obtain ⟨_, _, _, q⟩ := hs
    exact False.elim q
section
variable {P : Program} {w : World} {K : PySem.W.Frag} {mg : Str → Option Value} {base : Heap}
theorem Fun.okB {x qual : Str} {st : Stmt} {f : Addr} {fd : FuncData} {N ps : List Str} {k : Nat} {sp : Sp} (F : Fun K x qual st f fd) (S : FnScope N ps (defScope st)) (len : ∀ vs H Q E, sp vs H Q E → vs.length = ps.length)
    (hbody : ∀ (cdv : Value) (A : Around) (outer : List Env) (s : Shared) (H : Hp) (vs : List V) (Q : VK) (E : XK), RoomB k (A.deeper (envOfC qual (defScope st) s.heap.objs.size f cdv)) → sp vs H Q E →
      ∃ t, PSs (cxB CX0 P w K mg base N qual (defScope st) f cdv A outer s H E).nox (defBody st) t ∧ t { nx := fun _ H' => Q .non H', rt := Q } (start N vs) H) : FnB P w K mg base CX0 (k + 1) f fd ps sp := by
  obtain ⟨oc, od, kV, doc, pm, an, cdv, ct, osl, rfl, lk, hcd⟩ := F.ex
  refine fn_ofB lk hcd S len fun A outer s H vs Q E hr hsp => ?_
  obtain ⟨t, h, q⟩ := hbody cdv A outer s H vs Q E hr hsp
  exact ⟨t, h.nox, q⟩
def CalB (P : Program) (w : World) (K : PySem.W.Frag) (mg : Str → Option Value) (base : Heap) (k : Nat) (x : Str) (ps : List Str) (sp : Sp) : Prop :=
  ∃ (f : Addr) (fd : FuncData), FnB P w K mg base CX0 k f fd ps sp ∧ mg x = some (.ref f) ∧ PySem.W.keepIn K (.ref f) = true ∧ Binds K fd ps []
theorem run_fnB {X : Cx} {k : Nat} {f : Addr} {fd : FuncData} {ps : List Str} {sp : Sp} {pins : List (Addr × Obj)} {σ : St} {H : Hp} {s : Shared} {Q : VK} {us : List Value} {vs : List V} (F : FnB X.prog X.w X.K X.mg X.base CX0 k f fd ps sp) (hr : RoomB k X.A) (hb : Binds X.K fd ps [])
    (I : Inv X pins σ H s) (r : Vals vs us) (h : sp (vs ++ []) H Q E0) : wpAny (model X.prog X.w) X.A (call (.ref f) us) (EP X pins σ Q) X.xe s := by
  have r2 : Vals (vs ++ []) (us ++ []) := r.append .nil
  have hl : (us ++ []).length = ps.length := by rw [← r2.length]; exact F.len _ _ _ _ h
  refine wpAny_call (codeAny_mono (F.run X.A X.stack s H ⟨us, []⟩ (us ++ []) (vs ++ []) Q E0 hr I.env0 (hb s us I.kIn hl) r2 h) fun r s' hq => ?_)
  cases r with
  | error e => exact False.elim hq
  | ok fl =>
    cases fl with
    | ret u => exact I.after hq
    | next => exact False.elim hq
    | brk => exact False.elim hq
    | cont => exact False.elim hq
theorem pe_calB {X : Cx} {k : Nat} {x : Str} {ps : List Str} {sp : Sp} {p pos : Pos} {e : Expr} {es : List Expr} {t : TA} (C : CalB X.prog X.w X.K X.mg X.base k x ps sp) (hr : RoomB k X.A) (hg : Gl X x) (ha : PA X (e :: es) t)
    (hs : starEach (e :: es) X.env = (false, eval e X.env) :: starEach es X.env := by rfl) (hplain : (backTo pos (starEach es X.env)).any (·.1) = false := by rfl)
    (hdb : (x == ("__debug__" : Str)) = false := by decide) : PE X (.Call (.Name x p) (e :: es) [] pos) (tCall sp [] E0 t) := by
  obtain ⟨f, fd, G, hm, kp, b⟩ := C
  intro pins s σ H Q I h
  refine wpAny_Call_Name_kw (ld_glob I hg hm ?_ hdb)
  refine PySem.W.callWith_K (h₀ := X.base) I.ok.mod.kin kp (thn (ha pos pins s σ H _ I h) fun us s1 ⟨vs, H1, I1, r, q⟩ => ⟨I1.kIn, ?_⟩) hs hplain
  exact run_fnB G hr b I1 r q
end
end L2
end
section
set_option Elab.async false
set_option linter.all false
set_option maxRecDepth 100000
set_option maxHeartbeats 1000000
namespace L2
open PySem PySem.Spec PyProof.Rows
structure XLook (K : PySem.W.Frag) (C : Addr) : Prop where
  exc : PySem.W.excIn K C veMro "ValueError.__new__" = true
  ga : PySem.W.findIn K (.ref C) "__getattribute__" = some (some (.builtin "BaseException.__getattribute__"))
  gn : PySem.W.findIn K (.ref C) "__getattr__" = some none
  cl : PySem.W.findIn K (.ref C) "__class__" = some (some (.builtin "object.__class__"))
  mo : PySem.W.mroIn K C (.type "object") = some true
section
variable {prog : Program} {w : World} {A : Around} {E : Value → Shared → Prop} {h : Heap} {g : Array GenState} {d : Drawn} {t : Nat} {os : OsState} {K : PySem.W.Frag} {C a : Addr} {o : Obj} {vs : Array Value}
theorem lk_at {M : Model} {name : Str} {r : Option Value} {Q : Option Value → Shared → Prop} (X : K.In h) (e : PySem.W.findIn K (.ref C) name = some r) (hq : Q r ⟨h, g, d, t, os⟩) : wpAny M A (typeLookup (.ref C) name) Q E ⟨h, g, d, t, os⟩ :=
  PySem.W.looks_findIn X e A Q E _ (fun _ _ z => z) hq
theorem exc_check {M : Model} {nameV : Value} {Q : Unit → Shared → Prop} (X : K.In h) (L : XLook K C) (hx : h.get? a = some o) (hc : o.cls = .ref C) (hq : Q () ⟨h, g, d, t, os⟩) :
    wpAny M A (checkBuiltinCall "BaseException.__getattribute__" ⟨[.ref a, nameV], []⟩) Q E ⟨h, g, d, t, os⟩ := by
  obtain ⟨tl, N, nm, q, bs, hdct, sn, sub, ab, col, dd, k0, k1, k2, k3, k5, mN, hC, hN, hni, T, _⟩ := xcls_obj X L.exc
  have hk : builtinKind "BaseException.__getattribute__" = some .slot := by decide +kernel
  have hsplit : splitId "BaseException.__getattribute__" = some ("BaseException", "__getattribute__") := by decide +kernel
  have hcB : (Value.ref C :: tl).contains (.type "BaseException") = true := by rw [List.contains_cons, T.hasType PySem.F.excBase_ValueError.hasBase]; rfl
  have ha := PySem.F.args_bexc_ga (.ref a) nameV
  simp only [checkBuiltinCall, hk, hsplit]
  refine wpAny_bind ?_
  · unfold isInstance
    repeat (first | (with_reducible refine wpAny_loadPart_at hx ?_; rw [hc]) | (with_reducible refine wpAny_isSubtype_exc hC ?_; rw [hcB]) | wp_step)
    exact hq
theorem exc_get {R : Result → Shared → Prop} (X : K.In h) (L : XLook K C) (hx : h.get? a = some o) (hc : o.cls = .ref C) (hq : R (.ok (.ret (.ref C))) ⟨h, g, d, t, os⟩) :
    codeAny (model prog w) A (.call (.builtin "getset_descriptor.__get__") ⟨[.builtin "object.__class__", .ref a, .ref C], []⟩) R ⟨h, g, d, t, os⟩ := by
  obtain ⟨tl, N, nm, q, bs, hdct, sn, sub, ab, col, dd, k0, k1, k2, k3, k5, mN, hC, hN, hni, T, _⟩ := xcls_obj X L.exc
  have hT5 : (⟨h, g, d, t, os⟩ : Shared).TypeIs (.builtin "object.__class__") "getset_descriptor" := PySem.F.typeOf_object_class
  have hcB : (Value.ref C :: tl).contains (.type (".".intercalate ("object.__class__".cutAt '.').dropLast)) = true := by
    rw [PySem.F.owner_object_class, List.contains_cons, T.hasType (X := "object") (b := true) (by decide)]; rfl
  refine codeAny_call_builtin PySem.F.slot_gs_get.plain PySem.F.entry_gs_get (PySem.F.slot_gs_get.check _ _ _ _ _ _ _ _ hT5 (PySem.F.args_gs_get _ _ _) ?_)
  repeat (any_goals (first | assumption | (with_reducible refine wpAny_loadPart_at hx ?_; rw [hc]) | (with_reducible refine wpAny_isSubtype_exc hC ?_; rw [hcB]) | wp_step))
  refine ⟨Code.quiet_builtin _ (by decide +kernel), codeAny_builtin PySem.F.entry_object_class ?_⟩
  repeat (any_goals (first | assumption | (with_reducible refine wpAny_loadPart_at hx ?_; rw [hc]) | wp_step))
theorem exc_entry {tk : Tok} {Q : PySem.Fin → Shared → Prop} (X : K.In h) (L : XLook K C) (hx : h.get? a = some o) (hc : o.cls = .ref C) (hq : Q (.done (.ret (.ref C))) ⟨h, g, d, t, os⟩) :
    wpAny (model prog w) A (Builtin.«object.__getattribute__» ⟨[.ref a, .str "__class__" tk], []⟩) Q E ⟨h, g, d, t, os⟩ := by
  have hT5 : (⟨h, g, d, t, os⟩ : Shared).TypeIs (.builtin "object.__class__") "getset_descriptor" := PySem.F.typeOf_object_class
  have f5 := PySem.F.typeOf_object_class
  have f6 := PySem.F.slot_gs_get.lookup
  have f7 := PySem.F.slot_gs_set.lookup
  repeat (any_goals (first | assumption | (with_reducible refine wpAny_loadPart_at hx ?_; rw [hc]) | with_reducible refine lk_at X L.cl ?_ | wp_step))
  refine exc_get X L hx hc ?_
  repeat (any_goals (first | assumption | wp_step))
theorem exc_by {tk : Tok} {fill expr : Bool} {Q : Value → Shared → Prop} (X : K.In h) (L : XLook K C) (hx : h.get? a = some o) (hc : o.cls = .ref C) (hq : Q (.ref C) ⟨h, g, d, t, os⟩) :
    wpAny (model prog w) A (getAttrBy (.ref a) (.str "__class__" tk) fill expr) Q E ⟨h, g, d, t, os⟩ := by
  have f3 := PySem.F.attr_ValueError.ga.bind (.ref a)
  have hx0 : (expr && onTheHeap (Value.builtin "BaseException.__getattribute__")) = false := by cases expr <;> rfl
  have hx2 : (Value.builtin "BaseException.__getattribute__" == Value.builtin "object.__getattribute__") = false := by decide +kernel
  have hx1 : (onTheHeap (Value.ref C) && Value.builtin "BaseException.__getattribute__" == Value.builtin "object.__getattribute__") = false := by rw [hx2]; rfl
  repeat (any_goals (first | assumption | (with_reducible refine wpAny_loadPart_at hx ?_; rw [hc]) | with_reducible refine lk_at X L.ga ?_ | with_reducible refine lk_at X L.gn ?_ | wp_step))
  refine codeAny_call_builtin PySem.F.attr_ValueError.ga.plain PySem.F.entry_bexc_ga (exc_check X L hx hc (exc_entry X L hx hc ?_))
  repeat (any_goals (first | assumption | wp_step))
theorem exc_attr {Q : Option Value → Shared → Prop} (X : K.In h) (L : XLook K C) (hx : h.get? a = some o) (hc : o.cls = .ref C) (hq : Q (some (.ref C)) ⟨h, g, d, t + 1, os⟩) :
    wpAny (model prog w) A (getAttr? (.ref a) "__class__") Q E ⟨h, g, d, t, os⟩ := by
  unfold getAttr? getAttrBy?
  repeat (any_goals (first | assumption | with_reducible apply exc_by X L hx hc | wp_step))
end
theorem kitx_exc {K : PySem.W.Frag} {e C : Addr} (L : XLook K C) : PySem.W.KitX K (.ref e) (.ref C) (fun h => ∃ oe vs, h.get? e = some oe ∧ oe.cls = .ref C ∧ oe.data = .fields vs) where
  ty := fun M h X ⟨oe, vs, h1, h2, h3⟩ => by
    intro A Q E s k hq
    obtain ⟨hp, g, d, t, os⟩ := s
    have h1' := k _ _ h1
    repeat (first | (with_reducible refine wpAny_loadPart_at h1' ?_; rw [h2]) | wp_step)
    exact hq
  it := fun M h X _ => by
    obtain ⟨tl, N, nm, q, bs, hdct, sn, sub, ab, col, dd, k0, k1, k2, k3, k5, mN, hC, hN, hni, T, _⟩ := xcls_obj X L.exc
    intro A Q E s k hq
    unfold isType loadHead
    exact wpAny_bind (wpAny_loadPart (k _ _ hC) (wpAny_pure hq))
  ne := fun h tp dd its n sl X htp => by
    obtain ⟨tl, N, nm, q, bs, hdct, sn, sub, ab, col, dd', k0, k1, k2, k3, k5, mN, hC, hN, hni, T, _⟩ := xcls_obj X L.exc
    refine Bool.eq_false_iff.mpr fun z => ?_
    have e' : C = tp := Value.ref.inj (beq_iff_eq.mp z)
    subst e'
    rw [hC] at htp
    have z2 : Value.type "type" = Value.type "tuple" := congrArg Obj.cls (Option.some.inj htp)
    exact absurd (Value.type.inj z2) (by decide)
  ca := fun {prog w A E Q s} X ⟨oe, vs, h1, h2, h3⟩ hq => by
    obtain ⟨hp, g, d, t, os⟩ := s
    exact exc_attr X L h1 h2 hq
section
variable {X : Cx}
theorem call_isinstX : CallR X (.builtin "isinstance") (fun xs H Q => ∃ e C c b, xs = [.ref e, c] ∧ H e = some (XO e C) ∧ XLook X.K C ∧ ((∃ D, c = .ref D ∧ PySem.W.kitOne X.K (.ref C) (.ref D) = some b) ∨ (∃ T, c = .ty T ∧ PySem.W.kitOne X.K (.ref C) (.type T) = some b)) ∧ Q (.bl b) H) := by
  intro pins s σ H xs us Q I r h
  obtain ⟨e, C, c, b, rfl, he, L, hb, q⟩ := h
  obtain ⟨u, w', rfl, rx, rc⟩ := vals2 r
  cases rx
  obtain ⟨p, _, _⟩ := I.hok e _ he
  rcases hb with ⟨D, rfl, hk⟩ | ⟨T, rfl, hk⟩
  · cases rc
    exact PySem.W.kia_one (kitx_exc L) I.kIn p hk (fun z => nomatch z) fun tk => ⟨.bl b, H, I.tok tk, rfl, q⟩
  · cases rc
    exact PySem.W.kia_one (kitx_exc L) I.kIn p hk (fun z => nomatch z) fun tk => ⟨.bl b, H, I.tok tk, rfl, q⟩
end
end L2
end
section
set_option Elab.async false
set_option linter.all false
set_option maxRecDepth 100000
set_option maxHeartbeats 1000000
namespace L2
open PySem PySem.Spec PyProof.Rows
section
variable {X : Cx}
theorem eqg_bool (a b : Bool) : PySem.MeetsSeq.EqGives (.bool a) (.bool b) (a == b) := fun prog w A E s Q h => SeqAt.EqAt.bool_bool a b prog w _ _ h
theorem bls_vals {bs : List Bool} : ∀ {us : List Value}, Vals (bs.map V.bl) us → us = bs.map Value.bool := by
  induction bs with
  | nil => intro us r; cases r; rfl
  | cons b bs ih =>
    intro us r
    rw [List.map_cons] at r
    cases r with
    | cons r1 r2 => rw [List.map_cons, ← ih r2, (show _ = Value.bool b from r1)]
def isB (b : Bool) : Value → Bool
  | .bool a => a == b
  | _ => false
theorem mt_countB : MtM X "list.count" (fun x vs H Q => ∃ (l : Addr) (bs : List Bool) (b : Bool), x = .ref l ∧ vs = [.bl b] ∧ H l = some (.lst (bs.map V.bl)) ∧ Q (.int (bs.count b : Nat)) H) := by
  intro pins s σ H x vs v us Q I rx rv h
  obtain ⟨l, bs, b, rfl, rfl, hH, q⟩ := h
  cases rx
  obtain ⟨u, rfl, ru⟩ := rv.one
  cases ru
  obtain ⟨z, its, n, r, hl, e⟩ := I.lstM hH
  have hi := bls_vals r
  subst hi
  refine call_meets PySem.F.slot_list_count ⟨_, e, rfl⟩ PySem.F.entry_list_count (PySem.F.args_list_count_2 _ _) (MeetsSeq.list_count l _ n _ (isB b) (fun y hy => ?_)) ⟨e, ?_⟩
  · obtain ⟨a, _, rfl⟩ := List.mem_map.mp (by simpa using hy : y ∈ bs.map Value.bool)
    exact eqg_bool a b
  · refine ⟨.int (bs.count b : Nat), H, I.tok _, ⟨s.toks, ?_⟩, q⟩
    have : (bs.map Value.bool).countP (isB b) = bs.count b := by
      rw [List.countP_map, List.count]
      rfl
    simp only [List.toList_toArray, this]
theorem mt_indexB : MtM X "list.index" (fun x vs H Q => ∃ (l : Addr) (bs : List Bool) (b : Bool) (j : Nat), x = .ref l ∧ vs = [.bl b] ∧ H l = some (.lst (bs.map V.bl)) ∧ bs[j]? = some b ∧ (∀ i, i < j → bs[i]? ≠ some b) ∧ j < 1000 ∧ Q (.int (j : Nat)) H) := by
  intro pins s σ H x vs v us Q I rx rv h
  obtain ⟨l, bs, b, j, rfl, rfl, hH, hj, hno, hz, q⟩ := h
  cases rx
  obtain ⟨u, rfl, ru⟩ := rv.one
  cases ru
  obtain ⟨z, its, n, r, hl, e⟩ := I.lstM hH
  have hi := bls_vals r
  subst hi
  have hjl : j < bs.length := (List.getElem?_eq_some_iff.mp hj).1
  refine call_meets PySem.F.slot_list_index ⟨_, e, rfl⟩ PySem.F.entry_list_index (PySem.F.args_list_index_2 _ _) (MeetsSeq.list_index l _ n _ (isB b) (fun y hy => ?_) j (by simpa using hjl) (by omega) ?_ (fun m hm hmj => ?_)) ⟨e, ?_⟩
  · obtain ⟨a, _, rfl⟩ := List.mem_map.mp (by simpa using hy : y ∈ bs.map Value.bool)
    exact eqg_bool a b
  · have := (List.getElem?_eq_some_iff.mp hj).2
    simp [isB, this]
  · have hm' : m < bs.length := by simpa using hm
    have := hno m hmj
    rw [List.getElem?_eq_getElem hm'] at this
    have h2 : bs[m] ≠ b := fun z => this (by rw [z])
    simp [isB, h2]
  · exact ⟨.int (j : Nat), H, I.tok _, ⟨_, rfl⟩, q⟩
end
end L2
end
section
set_option Elab.async false
set_option linter.all false
set_option maxRecDepth 100000
set_option maxHeartbeats 1000000
namespace L2
open PySem PySem.Spec PyProof.Rows
section
variable {X : Cx}
def rRepT (K : PySem.W.Frag) : R2 := fun x y H Q => ∃ l k xs, x = .ref l ∧ y = .int k ∧ SqT K H l xs ∧ xs ≠ [] ∧ 2 ≤ k ∧ k < 1000 ∧ xs.length * k.toNat ≤ sizeLine ∧ ∀ p, H p = none → Q (.ref p) (upd H p (.tup (List.replicate k.toNat xs).flatten))
theorem op_repS : OpR X (binaryOp .Mult) (fun x y H Q => ∃ (z : Str) (k : Int), x = .str z ∧ y = .int k ∧ 1 ≤ z.length ∧ 2 ≤ k ∧ k < 1000 ∧ z.length * k.toNat ≤ 100000 ∧ Q (.str ⟨(List.replicate k.toNat z.cps.toList).flatten.toArray⟩) H) := by
  intro pins s σ H x y v u Q I rx ry h
  obtain ⟨z, k, rfl, rfl, h0, h1, h2, hz, q⟩ := h
  obtain ⟨t, rfl⟩ := rx
  obtain ⟨t', rfl⟩ := ry
  have n1 : ¬ k < 1 := by omega
  have n2 : (k == 1 || z.length == 0) = false := by
    have a : ¬ k = 1 := by omega
    have b : ¬ z.length = 0 := by omega
    simp [a, b]
  have e : (z.length : Int) * k = ((z.length * k.toNat : Nat) : Int) := by
    rw [Int.natCast_mul]; congr 1; omega
  have hnew : List.foldl (fun x1 x2 => x1 ++ x2) #[] (List.replicate k.toNat z.cps) = (List.replicate k.toNat z.cps.toList).flatten.toArray := by
    have f0 : ∀ (m : Nat) (acc : List Nat), List.foldl (fun x1 x2 => x1 ++ x2) acc.toArray (List.replicate m z.cps) = (acc ++ (List.replicate m z.cps.toList).flatten).toArray := by
      intro m
      induction m with
      | zero => intro acc; simp
      | succ m ih =>
        intro acc
        rw [List.replicate_succ, List.foldl_cons, List.replicate_succ, List.flatten_cons, ← List.append_assoc, ← ih]
        congr 1
        simp
    have := f0 k.toNat []
    simpa using this
  have hlen : ((List.replicate k.toNat z.cps.toList).flatten.toArray).size = k.toNat * z.length := by
    rw [List.size_toArray, len_rep]; simp [Str.length]
  refine P.mul_str ?_ (fun _ _ => ?_) (fun _ _ => ?_) ?_
  · have a : ¬ k < -(2 ^ 63 : Int) := by omega
    have b : ¬ k ≥ 2 ^ 63 := by omega
    rw [decide_eq_false a, decide_eq_false b]; rfl
  · have : (z.length : Int) ≤ 100000 := by
      have h3 : z.length * 1 ≤ z.length * k.toNat := Nat.mul_le_mul_left _ (by omega)
      omega
    have h4 : (100000 : Int) ≤ (2 ^ 63 - 1) / k := Int.le_ediv_of_mul_le (by omega) (by omega)
    omega
  · exact decide_eq_false (by rw [sizeLine_eq]; omega)
  · rw [if_neg n1, if_neg (by rw [n2]; decide), hnew]
    refine ⟨?_, ⟨.str _, H, I.tok _, ⟨_, rfl⟩, q⟩⟩
    show ((List.replicate k.toNat z.cps.toList).flatten.toArray).size ≤ _
    rw [hlen, sizeLine_eq, Nat.mul_comm]
    omega
end
section
variable {prog : Program} {w : World} {A : Around} {E : Value → Shared → Prop} {s : Shared}
end
section
variable {X : Cx}
def rSlTW (K : PySem.W.Frag) : V → Option Int → Option Int → Hp → VK → Prop := fun x lo hi H Q => ∃ a xs, x = .ref a ∧ SqT K H a xs ∧ (HT.sIx xs.length 0 lo = 0 ∧ HT.sIx xs.length xs.length hi = xs.length) ∧ Q (.ref a) H
end
end L2
end
section
set_option Elab.async false
set_option linter.all false
set_option maxRecDepth 100000
set_option maxHeartbeats 1000000
namespace L2
open PySem PySem.Spec PyProof.Rows
section
variable {X : Cx}
end
end L2
end
section
set_option Elab.async false
set_option linter.all false
set_option maxRecDepth 100000
set_option maxHeartbeats 1000000
namespace L2
open PySem PySem.Spec PyProof.Rows
def CDivB (i j : Int) : Prop := 0 < j ∧ j < 1606938044258990275541962092341162602522202993782792835301376
theorem op_fdivB {X : Cx} : OpR X (binaryOp .FloorDiv) (rI CDivB fun i j => .int (i / j)) := opI fun i j _ _ _ _ _ hc q => by
  have h1 : (0 : Int) < j := hc.1
  have h2 : j < 1606938044258990275541962092341162602522202993782792835301376 := hc.2
  have h3 : j.natAbs.log2 < 200 := (Nat.log2_lt (by omega)).mpr (by have e : 2 ^ 200 = 1606938044258990275541962092341162602522202993782792835301376 := by decide
                                                                    rw [e]; omega)
  exact floordiv_int (by omega) (by rw [Int.fdiv_eq_ediv_of_nonneg i (by omega)]; exact q) (.inl (PyProof.noPylong_of_log2 (by omega)))
def Rdy (P : Program) (w : World) (K : PySem.W.Frag) (mg : Str → Option Value) (base : Heap) (A : Around) (x : V) (sp : Sp) : Prop := ∃ (k : Nat) (f : Addr) (fd : FuncData) (ps : List Str), x = .ref f ∧ FnOk P w K mg base (CXr P w) k f fd ps sp ∧ Room k A ∧ PySem.W.keepIn K (.ref f) = true ∧ Binds K fd ps []
def tCallV (R : V → Sp → Prop) (E : XK) (tf : TE) (t : TA) : TE := fun σ H Q => tf σ H fun x H1 => ∃ sp, R x sp ∧ t σ H1 fun vs H2 => sp (vs ++ []) H2 Q E
section
variable {X : Cx} {E : XK} {fe e : Expr} {es : List Expr} {tf : TE} {t : TA} {pos : Pos}
theorem ix_listK (K' : PySem.W.Frag) (hK : X.K = K') : IxR X (rIxL K') := by
  subst hK; exact ix_list
theorem pe_callV (P : Program) (w : World) (K : PySem.W.Frag) (mg : Str → Option Value) (base : Heap) (A : Around) (z1 : X.prog = P) (z2 : X.w = w) (z3 : X.K = K) (z4 : X.mg = mg) (z5 : X.base = base) (z6 : X.A = A) (hx : Passes (CXr X.prog X.w) X E) (hf : PE X fe tf) (ha : PA X (e :: es) t)
    (he : eval (.Call fe (e :: es) [] pos) X.env = (do callWith pos (← eval fe X.env) [] (backTo pos (starEach (e :: es) X.env)) (backToKw pos (keywordEach [] X.env))) := by rfl)
    (hs : starEach (e :: es) X.env = (false, eval e X.env) :: starEach es X.env := by rfl) (hplain : (backTo pos (starEach es X.env)).any (·.1) = false := by rfl) : PE X (.Call fe (e :: es) [] pos) (tCallV (Rdy P w K mg base A) E tf t) := by
  subst z1 z2 z3 z4 z5 z6
  intro pins s σ H Q I h
  refine Call_ (thn (hf pins s σ H _ I h) fun v s1 ⟨x, H1, I1, r1, sp, ⟨k, f, fd, ps, ex, F, hr, hk, hb⟩, q⟩ => ?_) he
  subst ex
  cases r1
  refine PySem.W.callWith_K (h₀ := X.base) I1.ok.mod.kin hk (thn (ha pos pins s1 σ H1 _ I1 q) fun us s2 ⟨vs, H2, I2, r, q2⟩ => ⟨I2.kIn, ?_⟩) hs hplain
  exact run_fn F hr hb .nil hx I2 r q2
end
end L2
end
section
set_option Elab.async false
set_option linter.all false
set_option maxRecDepth 100000
set_option maxHeartbeats 1000000
namespace L2
open PySem PySem.Spec PyProof.Rows
theorem HOk.freeze {P : Program} {w : World} {H : Hp} {h : Heap} {a : Addr} {o : Obj} {kvs : List (Key × V)} (x : HOk P w H h) (e : H a = some (.dK kvs)) (ho : h.get? a = some o) : HOk P w (upd H a (.frz o (.dK kvs))) h := fun b u eb => by
  by_cases hb : b = a
  · subst hb; rw [upd_same] at eb; cases eb
    exact ⟨ho, x b _ e⟩
  · rw [upd_ne hb] at eb
    refine (x b u eb).stay (fun c v _ q => q) (fun c q => ?_) fun c xs q => ?_
    · rw [upd_ne (by rintro rfl; rw [e] at q; cases q)]; exact q
    · rw [upd_ne (by rintro rfl; rw [e] at q; cases q)]; exact q
theorem is_kV {P : Program} {w : World} {k : Key} {u : Value} (h : (mixKind P w).is k u = true) : RelV (kV k) u := by
  rw [mixKind_is] at h
  rcases keyIs_shape h with ⟨i, t, rfl, rfl⟩ | ⟨x, t, rfl, rfl⟩
  · exact ⟨_, rfl⟩
  · exact ⟨_, rfl⟩
theorem paired_get {α β : Type} {F : α → β → Prop} : ∀ {l₁ : List α} {l₂ : List β} {i : Nat} {x : α}, Paired F l₁ l₂ → l₁[i]? = some x → ∃ y, l₂[i]? = some y ∧ F x y
  | [], _, i, x, _, h => by simp at h
  | a :: l, [], i, x, p, _ => by cases p
  | a :: l, b :: m, 0, x, p, h => by
    cases p with
    | cons h1 h2 => cases h; exact ⟨b, rfl, h1⟩
  | a :: l, b :: m, i + 1, x, p, h => by
    cases p with
    | cons h1 h2 =>
      obtain ⟨y, e1, e2⟩ := paired_get (i := i) (x := x) h2 (by simpa using h)
      exact ⟨y, by simpa using e1, e2⟩
def Itd (a : Addr) (o : Obj) (kvs : List (Key × V)) : It where
  go := fun i H => H a = some (.frz o (.dK kvs)) ∧ i < kvs.length
  yld := fun i H x H' => H' = H ∧ (kvs.map fun p => kV p.1)[i]? = some x
  stop := fun i H => H a = some (.frz o (.dK kvs)) ∧ kvs.length ≤ i
theorem known_dict (a : Addr) (o : Obj) (kvs : List (Key × V)) : Known (Itd a o kvs) (kvs.map fun p => kV p.1) (fun H => H a = some (.frz o (.dK kvs))) :=
  ⟨fun i H h hi => ⟨h, by simpa using hi⟩, fun i H x H' h y => ⟨y.1, fun _ => y.2⟩, fun H h => ⟨h, by simp⟩⟩
theorem turn_dict {P : Program} {w : World} {K : PySem.W.Frag} {tg : Expr} (a it : Addr) (o : Obj) (kvs : List (Key × V)) (n ep : Nat) (hn : n = kvs.length) (hep : ∃ es, o.data = .dict es ep) : Turn P w K tg (Itd a o kvs) [it] it (fun i h => h.IsKeyIter it a i n ep) where
  mem := by simp
  obj := fun i h st b hb => by
    have e : b = it := by simpa using hb
    subst e
    obtain ⟨o, e, c, d⟩ := st
    exact ⟨o, e, fun v z => by rw [d] at z; cases z⟩
  keep := fun i h h' st k => st.at fun o e => k it (by simp) o e
  item := by
    intro X hP hw hK hc i pins s σ H E I hf st hg
    subst hP hw hK
    obtain ⟨hfz, hi⟩ := hg
    obtain ⟨z, hS, vs, rel, dd⟩ := dk_rd I.hok (.inr ⟨o, hfz⟩)
    obtain ⟨hget, _⟩ := (show s.heap.get? a = some o ∧ _ from I.hok a _ hfz)
    obtain ⟨ep', dat⟩ := dd.dictAt
    have epe : ep' = ep := by
      obtain ⟨o', es, h1, _, h2, _⟩ := id dat
      obtain ⟨es', h3⟩ := hep
      rw [hget] at h1; cases h1
      rw [h2] at h3; injection h3
    subst epe
    have hlen : vs.length = n := by rw [hn]; exact (Paired.length rel).symm
    rw [← hlen] at st
    obtain ⟨f0, f1, f2, f3, f4, f5⟩ := hf it (by simp)
    obtain ⟨q, hq⟩ : ∃ q, vs[i]? = some q := ⟨_, List.getElem?_eq_getElem (by omega)⟩
    obtain ⟨k, v⟩ := q
    refine wpAny_pyNext_dict_item st dat hq fun key h' hkey st' sb => ?_
    have I1 : Inv X pins σ H { s with heap := h' } := I.turned (t' := s.toks) (fun b o hb e => (sb.2 b hb).trans e) f0 f1 f3 f4 f5
    obtain ⟨oi, e, c, d⟩ := id st'
    rw [hlen] at st'
    obtain ⟨p, hp, e1, e2⟩ : ∃ p, kvs[i]? = some p ∧ p.1 = k ∧ RelV p.2 v := by
      have hi' : i < kvs.length := hi
      obtain ⟨y, hy, hr⟩ := paired_get rel (List.getElem?_eq_getElem hi')
      rw [hq] at hy; cases hy
      exact ⟨_, List.getElem?_eq_getElem hi', hr.1, hr.2⟩
    refine ⟨key, rfl, go_of (s := { s with heap := h' }) e c d (by decide) ⟨kV k, H, I1, is_kV hkey, ⟨rfl, ?_⟩, st', fun b hb => (hf b hb).1⟩⟩
    rw [List.getElem?_map, hp, ← e1]; rfl
  done := by
    intro X hP hw hK hc i pins s σ H E I hf st hg
    subst hP hw hK
    obtain ⟨hfz, hi⟩ := hg
    obtain ⟨z, hS, vs, rel, dd⟩ := dk_rd I.hok (.inr ⟨o, hfz⟩)
    obtain ⟨hget, _⟩ := (show s.heap.get? a = some o ∧ _ from I.hok a _ hfz)
    obtain ⟨ep', dat⟩ := dd.dictAt
    have epe : ep' = ep := by
      obtain ⟨o', es, h1, _, h2, _⟩ := id dat
      obtain ⟨es', h3⟩ := hep
      rw [hget] at h1; cases h1
      rw [h2] at h3; injection h3
    subst epe
    have hlen : vs.length = n := by rw [hn]; exact (Paired.length rel).symm
    rw [← hlen] at st
    obtain ⟨f0, f1, f2, f3, f4, f5⟩ := hf it (by simp)
    refine wpAny_pyNext_dict_end (I.ok.hd hc) st dat (by rw [List.getElem?_eq_none]; omega) fun h' he => ⟨rfl, ?_⟩
    exact I.turned (t' := s.toks) (fun b o hb e => he b o hb e) f0 f1 f3 f4 f5
  self := fun A i s Q E st hq => wpAny_pyIter_keyiter st hq
section
variable {X : Cx} {pins : List (Addr × Obj)} {σ : St} {H : Hp} {s : Shared} {tg : Expr}
theorem Inv.freeze {a : Addr} {o : Obj} {kvs : List (Key × V)} (I : Inv X pins σ H s) (e : H a = some (.dK kvs)) (ho : s.heap.get? a = some o) : Inv X pins σ (upd H a (.frz o (.dK kvs))) s := by
  have ne : ∀ {b : Addr} {u : Option HO}, H b = u → u ≠ some (.dK kvs) → b ≠ a := fun {b u} q n z => n (by rw [← q, z, e])
  refine ⟨I.ok, I.os, I.bare, ⟨I.base.keep, I.base.slot, fun b ob q n hx => ?_, I.base.there, fun b xs q => ?_, fun b ob u q => ?_, fun b ps q => ?_⟩, I.loc, I.cell, ?_, fun x c q => ?_, fun p q => ?_, I.hok.freeze e ho, I.len⟩
  · have := I.base.free b ob q n hx
    rw [upd_ne (ne this (by simp))]; exact this
  · have := I.base.tups b xs q
    rw [upd_ne (ne this (by simp))]; exact this
  · have := I.base.frzs b ob u q
    rw [upd_ne (ne this (by simp))]; exact this
  · obtain ⟨m, z⟩ := I.base.tbls b ps q
    exact ⟨m, by rw [upd_ne (ne z (by simp))]; exact z⟩
  · have := I.free
    rw [upd_ne (ne this (by simp))]; exact this
  · have := I.freeC x c q
    rw [upd_ne (ne this (by simp))]; exact this
  · obtain ⟨a1, a2, a3⟩ := I.pin p q
    exact ⟨a1, by rw [upd_ne (ne a2 (by simp))]; exact a2, a3⟩
def iDict (tl : TE) : TI := fun σ H R => tl σ H fun x H1 => ∃ a kvs, x = .ref a ∧ H1 a = some (.dK kvs) ∧ ∀ o, R (Itd a o kvs) (upd H1 a (.frz o (.dK kvs)))
theorem pi_dict {l : Expr} {tl : TE} (hl : PE X l tl) : PI X tg l (iDict tl) := by
  intro pins s σ H R I h
  refine thn (hl pins s σ H _ I h) fun v s1 ⟨x, H1, I1, r1, q1⟩ => ?_
  obtain ⟨a, kvs, e, hq, q⟩ := q1
  subst e
  cases r1
  obtain ⟨z, hS, vs, rel, dd⟩ := dk_of I1.hok hq
  obtain ⟨ep, dat⟩ := dd.dictAt
  obtain ⟨o, es, ho, _, hod, _⟩ := id dat
  refine wpAny_pyIter_dict hS dat ?_
  have I2 := (I1.freeze hq ho).kept (t' := s1.toks) (h' := s1.heap.push { cls := .type "dict_keyiterator", data := .fields #[.ref a, .int 0 0, .int vs.length 0, .int ep 0] }) fun b o e => Heap.get?_push_of_some _ e
  refine ⟨s1.heap.objs.size, [s1.heap.objs.size], _, _, upd H1 a (.frz o (.dK kvs)), rfl, I2, turn_dict a _ o kvs vs.length ep (Paired.length rel).symm ⟨es, hod⟩, ⟨_, Heap.get?_push_size _ rfl, rfl, rfl⟩, fun b hb => ?_, q o⟩
  have e : b = s1.heap.objs.size := by simpa using hb
  subst e
  exact (I1.freeze hq ho).fpOk (Nat.le_refl _) ((I1.freeze hq ho).hok.fresh (Nat.le_refl _))
theorem HOk.thaw {P : Program} {w : World} {H : Hp} {h : Heap} {a : Addr} {o : Obj} {kvs : List (Key × V)} (x : HOk P w H h) (e : H a = some (.frz o (.dK kvs))) : HOk P w (upd H a (.dK kvs)) h := fun b u eb => by
  by_cases hb : b = a
  · subst hb; rw [upd_same] at eb; cases eb
    exact (show h.get? b = some o ∧ ObjOk P w H h b (.dK kvs) from x b _ e).2
  · rw [upd_ne hb] at eb
    refine (x b u eb).stay (fun c v _ q => q) (fun c q => ?_) fun c xs q => ?_
    · rw [upd_ne (by rintro rfl; rw [e] at q; cases q)]; exact q
    · rw [upd_ne (by rintro rfl; rw [e] at q; cases q)]; exact q
theorem Inv.thaw {a : Addr} {o : Obj} {kvs : List (Key × V)} {pins' : List (Addr × Obj)} {σ' : St} {H' : Hp} {s' : Shared} (I : Inv X pins σ H s) (I0 : Inv X pins' σ' H' s') (h0 : H' a = some (.dK kvs)) (e : H a = some (.frz o (.dK kvs))) : Inv X pins σ (upd H a (.dK kvs)) s := by
  have ne : ∀ {b : Addr} {u : Option HO}, H b = u → u ≠ some (.frz o (.dK kvs)) → b ≠ a := fun {b u} q n z => n (by rw [← q, z, e])
  refine ⟨I.ok, I.os, I.bare, ⟨I.base.keep, I.base.slot, fun b ob q n hx => ?_, I.base.there, fun b xs q => ?_, fun b ob u q => ?_, fun b ps q => ?_⟩, I.loc, I.cell, ?_, fun x c q => ?_, fun p q => ?_, I.hok.thaw e, I.len⟩
  · have := I.base.free b ob q n hx
    rw [upd_ne (ne this (by simp))]; exact this
  · have := I.base.tups b xs q
    rw [upd_ne (ne this (by simp))]; exact this
  · have := I.base.frzs b ob u q
    rw [upd_ne (by rintro rfl; have := I0.base.frzs _ ob u q; rw [h0] at this; cases this)]; exact this
  · obtain ⟨m, z⟩ := I.base.tbls b ps q
    exact ⟨m, by rw [upd_ne (ne z (by simp))]; exact z⟩
  · have := I.free
    rw [upd_ne (ne this (by simp))]; exact this
  · have := I.freeC x c q
    rw [upd_ne (ne this (by simp))]; exact this
  · obtain ⟨a1, a2, a3⟩ := I.pin p q
    exact ⟨a1, by rw [upd_ne (ne a2 (by simp))]; exact a2, a3⟩
def tThaw (t : TE) : TE := fun σ H Q => ∃ a kvs, H a = some (.dK kvs) ∧ t σ H fun y H' => ∃ o, H' a = some (.frz o (.dK kvs)) ∧ Q y (upd H' a (.dK kvs))
theorem pe_thaw {e : Expr} {t : TE} (he : PE X e t) : PE X e (tThaw t) := by
  intro pins s σ H Q I h
  obtain ⟨a, kvs, h0, h⟩ := h
  exact thn (he pins s σ H _ I h) fun u s1 ⟨y, H', I', r, o, hf, q⟩ => ⟨y, _, I'.thaw I h0 hf, r, q⟩
end
end L2
end
section
set_option autoImplicit false
namespace Kn
abbrev S := List Nat
section
variable {κ α : Type} [DecidableEq κ]
def putA : List (κ × α) → κ → α → List (κ × α)
  | [], k, v => [(k, v)]
  | (k', v') :: r, k, v => if k' = k then (k', v) :: r else (k', v') :: putA r k v
def getA : List (κ × α) → κ → Option α
  | [], _ => none
  | (k', v') :: r, k => if k' = k then some v' else getA r k
theorem getA_putA (l : List (κ × α)) (k k' : κ) (v : α) : getA (putA l k v) k' = if k = k' then some v else getA l k' := by
  induction l with
  | nil => simp [putA, getA]
  | cons p r ih =>
    obtain ⟨k0, v0⟩ := p
    by_cases h : k0 = k
    · subst h
      by_cases h' : k0 = k' <;> simp [putA, getA, h']
    · simp only [putA, if_neg h, getA, ih]
      by_cases h1 : k0 = k'
      · subst h1
        rw [if_pos rfl, if_pos rfl, if_neg (fun e => h e.symm)]
      · rw [if_neg h1, if_neg h1]
theorem putA_keys (l : List (κ × α)) (k : κ) (v : α) : (putA l k v).map (·.1) = if k ∈ l.map (·.1) then l.map (·.1) else l.map (·.1) ++ [k] := by
  induction l with
  | nil => simp [putA]
  | cons p r ih =>
    obtain ⟨k0, v0⟩ := p
    by_cases h : k0 = k
    · subst h; simp [putA]
    · have h' : ¬ k = k0 := fun e => h e.symm
      simp only [putA, if_neg h, List.map_cons, ih, List.mem_cons, h', false_or]
      split <;> simp
theorem putA_nodup {l : List (κ × α)} {k : κ} {v : α} (h : (l.map (·.1)).Nodup) : ((putA l k v).map (·.1)).Nodup := by
  rw [putA_keys]
  split
  · exact h
  · rename_i hk
    exact List.nodup_append.mpr ⟨h, by simp, fun a ha b hb e => by
      have : b = k := by simpa using hb
      subst this; subst e; exact hk ha⟩
theorem getA_mem {l : List (κ × α)} (h : (l.map (·.1)).Nodup) (k : κ) (v : α) : (k, v) ∈ l ↔ getA l k = some v := by
  induction l with
  | nil => simp [getA]
  | cons p r ih =>
    obtain ⟨k0, v0⟩ := p
    have h1 : k0 ∉ r.map (·.1) := (List.nodup_cons.mp h).1
    have h2 := ih (List.nodup_cons.mp h).2
    by_cases e : k0 = k
    · subst e
      have g : getA ((k0, v0) :: r) k0 = some v0 := by simp [getA]
      rw [g, List.mem_cons]
      constructor
      · rintro (z | z)
        · rw [(Prod.mk.inj z).2]
        · exact absurd (List.mem_map_of_mem (f := (·.1)) z) h1
      · intro z; rw [Option.some.inj z]; exact .inl rfl
    · simp only [getA, if_neg e, List.mem_cons, Prod.mk.injEq]
      rw [← h2]
      constructor
      · rintro (z | z)
        · exact absurd z.1.symm e
        · exact z
      · intro z; exact .inr z
theorem getA_none {l : List (κ × α)} {k : κ} : getA l k = none ↔ k ∉ l.map (·.1) := by
  induction l with
  | nil => simp [getA]
  | cons p r ih =>
    obtain ⟨k0, v0⟩ := p
    by_cases e : k0 = k
    · subst e; simp [getA]
    · have e' : ¬ k = k0 := fun z => e z.symm
      simp only [getA, if_neg e, ih, List.map_cons, List.mem_cons, e', false_or]
end
def bump (row : List (S × Int)) (l : S) : List (S × Int) := putA row l ((getA row l).getD 0 + 1)
def addP (rows : List (S × List (S × Int))) (p : S × S) : List (S × List (S × Int)) := putA rows p.1 (bump ((getA rows p.1).getD []) p.2)
def rowsOf (ps : List (S × S)) : List (S × List (S × Int)) := ps.foldl addP []
theorem rowsOf_snoc (ps : List (S × S)) (p : S × S) : rowsOf (ps ++ [p]) = addP (rowsOf ps) p := by
  unfold rowsOf; rw [List.foldl_append]; rfl
def endOf (t : S) (o : Nat) : S := t.drop (t.length - o)
def pairs1 (o : Nat) (nm : S) : List (S × S) := (List.range (nm.length + 1)).map fun p => (endOf (nm.take p) o, (nm.drop p).take 1)
def pairsB (o : Nat) (bk : List S) : List (S × S) := bk.flatMap (pairs1 o)
structure RowsOk (ps : List (S × S)) (rows : List (S × List (S × Int))) : Prop where
  nd : (rows.map (·.1)).Nodup
  ndr : ∀ e row, (e, row) ∈ rows → (row.map (·.1)).Nodup
  val : ∀ e l, getA ((getA rows e).getD []) l = if 0 < ps.count (e, l) then some (ps.count (e, l) : Int) else none
  has : ∀ e, (∃ row, getA rows e = some row) ↔ ∃ l, (e, l) ∈ ps
theorem rows_ok (ps : List (S × S)) : RowsOk ps (rowsOf ps) := by
  suffices h : ∀ (qs ps : List (S × S)) rows, RowsOk ps rows → RowsOk (ps ++ qs) (qs.foldl addP rows) by
    have := h ps [] [] ⟨by simp, by simp, by simp [getA], by simp [getA]⟩
    simpa [rowsOf] using this
  intro qs
  induction qs with
  | nil => intro ps rows h; simpa using h
  | cons q qs ih =>
    intro ps rows h
    obtain ⟨e0, l0⟩ := q
    have step : RowsOk (ps ++ [(e0, l0)]) (addP rows (e0, l0)) := by
      have hrow : ((((getA rows e0).getD []).map (·.1))).Nodup := by
        cases g : getA rows e0 with
        | none => simp
        | some row => exact h.ndr e0 row ((getA_mem h.nd e0 row).mpr g)
      refine ⟨putA_nodup h.nd, fun e row hm => ?_, fun e l => ?_, fun e => ?_⟩
      · have hm' := (getA_mem (putA_nodup h.nd) e row).mp hm
        unfold addP at hm'
        rw [getA_putA] at hm'
        split at hm'
        · have := Option.some.inj hm'
          rw [← this]
          exact putA_nodup hrow
        · exact h.ndr e row ((getA_mem h.nd e row).mpr hm')
      · unfold addP
        rw [getA_putA]
        by_cases he : e0 = e
        · subst he
          rw [if_pos rfl]
          show getA (bump ((getA rows e0).getD []) l0) l = _
          unfold bump
          rw [getA_putA, h.val e0 l0]
          by_cases hl : l0 = l
          · subst hl
            rw [if_pos rfl, List.count_append]
            have e1 : List.count (e0, l0) [(e0, l0)] = 1 := by simp
            rw [e1]
            by_cases hc : 0 < List.count (e0, l0) ps
            · simp [hc]
            · have : List.count (e0, l0) ps = 0 := by omega
              simp [this]
          · rw [if_neg hl, h.val e0 l, List.count_append]
            have e1 : List.count (e0, l) [(e0, l0)] = 0 := by
              simp [List.count_cons, hl]
            rw [e1, Nat.add_zero]
        · rw [if_neg he]
          rw [h.val e l, List.count_append]
          have e1 : List.count (e, l) [(e0, l0)] = 0 := by
            simp [List.count_cons, he]
          rw [e1, Nat.add_zero]
      · unfold addP
        rw [getA_putA]
        by_cases he : e0 = e
        · subst he
          rw [if_pos rfl]
          exact ⟨fun _ => ⟨l0, by simp⟩, fun _ => ⟨_, rfl⟩⟩
        · rw [if_neg he, h.has e]
          constructor
          · rintro ⟨l, hl⟩; exact ⟨l, List.mem_append_left _ hl⟩
          · rintro ⟨l, hl⟩
            rcases List.mem_append.mp hl with z | z
            · exact ⟨l, z⟩
            · have : (e, l) = (e0, l0) := by simpa using z
              exact absurd (congrArg Prod.fst this).symm he
    have := ih (ps ++ [(e0, l0)]) (addP rows (e0, l0)) step
    simpa using this
def Ris {α : Type} (xs : List (S × α)) : Prop := xs.Pairwise fun a b => a.1 < b.1
theorem s_irr (a : S) : ¬ a < a := List.lt_irrefl a
theorem s_tr {a b c : S} (h1 : a < b) (h2 : b < c) : a < c := List.lt_trans h1 h2
theorem Ris.keys {α : Type} {xs : List (S × α)} (h : Ris xs) : (xs.map (·.1)).Nodup := by
  unfold Ris at h
  rw [List.Nodup, List.pairwise_map]
  exact h.imp fun {a b} hab (e : a.1 = b.1) => s_irr b.1 (e ▸ hab)
theorem Ris.ext {α : Type} : ∀ {xs ys : List (S × α)}, Ris xs → Ris ys → (∀ p, p ∈ xs ↔ p ∈ ys) → xs = ys
  | [], [], _, _, _ => rfl
  | [], y :: ys, _, _, h => absurd ((h y).mpr (List.mem_cons_self ..)) (by simp)
  | x :: xs, [], _, _, h => absurd ((h x).mp (List.mem_cons_self ..)) (by simp)
  | x :: xs, y :: ys, hx, hy, h => by
    have hx1 := (List.pairwise_cons.mp hx).1
    have hy1 := (List.pairwise_cons.mp hy).1
    have exy : x = y := by
      rcases List.mem_cons.mp ((h x).mp (List.mem_cons_self ..)) with e | e
      · exact e
      · rcases List.mem_cons.mp ((h y).mpr (List.mem_cons_self ..)) with e' | e'
        · exact e'.symm
        · exact absurd (s_tr (hy1 x e) (hx1 y e')) (s_irr _)
    subst exy
    have : xs = ys := Ris.ext (List.pairwise_cons.mp hx).2 (List.pairwise_cons.mp hy).2 fun p => by
      constructor
      · intro hp
        rcases List.mem_cons.mp ((h p).mp (List.mem_cons_of_mem _ hp)) with e | e
        · subst e; exact absurd (hx1 p hp) (s_irr _)
        · exact e
      · intro hp
        rcases List.mem_cons.mp ((h p).mpr (List.mem_cons_of_mem _ hp)) with e | e
        · subst e; exact absurd (hy1 p hp) (s_irr _)
        · exact e
    rw [this]
structure IsRow (ps : List (S × S)) (e : S) (xs : List (S × Int)) : Prop where
  ris : Ris xs
  mem : ∀ l n, (l, n) ∈ xs ↔ n = (ps.count (e, l) : Int) ∧ 0 < n
theorem IsRow.of {ps : List (S × S)} {rows : List (S × List (S × Int))} (h : RowsOk ps rows) {e : S} {xs : List (S × Int)} (hr : Ris xs) (hp : xs.Perm ((getA rows e).getD [])) : IsRow ps e xs := by
  refine ⟨hr, fun l n => ?_⟩
  have hnd : (((getA rows e).getD []).map (·.1)).Nodup := by
    cases g : getA rows e with
    | none => simp
    | some row => exact h.ndr e row ((getA_mem h.nd e row).mpr g)
  rw [hp.mem_iff, getA_mem hnd, h.val]
  by_cases c : 0 < List.count (e, l) ps
  · rw [if_pos c]
    constructor
    · intro z
      have := Option.some.inj z
      omega
    · rintro ⟨z, _⟩; rw [z]
  · rw [if_neg c]
    constructor
    · intro z; cases z
    · rintro ⟨z1, z2⟩; omega
structure IsTable (ps : List (S × S)) (tb : List (S × List (S × Int))) : Prop where
  ris : Ris tb
  has : ∀ e, (∃ xs, (e, xs) ∈ tb) ↔ ∃ l, (e, l) ∈ ps
  row : ∀ e xs, (e, xs) ∈ tb → IsRow ps e xs
theorem IsRow.congr {ps qs : List (S × S)} {e : S} {xs : List (S × Int)} (a : IsRow ps e xs) (h : ∀ p, ps.count p = qs.count p) : IsRow qs e xs :=
  ⟨a.ris, fun l n => by rw [a.mem, h]⟩
theorem sum_counts {β : Type} [BEq β] [LawfulBEq β] : ∀ (ps ks : List β), ks.Nodup → (∀ x ∈ ps, x ∈ ks) → (ks.map fun k => (ps.count k : Int)).sum = (ps.length : Int)
  | [], ks, _, _ => by
    have : (ks.map fun k => (([] : List β).count k : Int)) = ks.map fun _ => (0 : Int) := by simp
    rw [this]
    induction ks with
    | nil => rfl
    | cons k r ih => simp_all
  | x :: ps, ks, nd, h => by
    have ih := sum_counts ps ks nd fun y hy => h y (List.mem_cons_of_mem _ hy)
    have no : ∀ (ks : List β), x ∉ ks → (ks.map fun k => ((x :: ps).count k : Int)).sum = (ks.map fun k => (ps.count k : Int)).sum := by
      intro ks
      induction ks with
      | nil => intro _; rfl
      | cons k r ih =>
        intro hx
        have hx1 : ¬ x = k := fun e => hx (e ▸ List.mem_cons_self ..)
        have hx2 : x ∉ r := fun e => hx (List.mem_cons_of_mem _ e)
        simp only [List.map_cons, List.sum_cons, ih hx2, List.count_cons_of_ne hx1]
    have one : ∀ (ks : List β), ks.Nodup → x ∈ ks → (ks.map fun k => ((x :: ps).count k : Int)).sum = (ks.map fun k => (ps.count k : Int)).sum + 1 := by
      intro ks
      induction ks with
      | nil => intro _ hx; cases hx
      | cons k r ih =>
        intro nd hx
        have hk := (List.nodup_cons.mp nd).1
        by_cases e : x = k
        · subst e
          simp only [List.map_cons, List.sum_cons, no r hk, List.count_cons_self]
          omega
        · have hx' : x ∈ r := (List.mem_cons.mp hx).elim (fun z => absurd z e) id
          simp only [List.map_cons, List.sum_cons, ih (List.nodup_cons.mp nd).2 hx', List.count_cons_of_ne e]
          omega
    rw [one ks nd (h x (List.mem_cons_self ..)), ih, List.length_cons]
    omega
theorem IsRow.total {ps : List (S × S)} {e : S} {xs : List (S × Int)} (a : IsRow ps e xs) : (xs.map (·.2)).sum = ((ps.filter fun p => p.1 = e).length : Int) := by
  have h := sum_counts (ps.filter fun p => decide (p.1 = e)) (xs.map fun p => (e, p.1)) ?_ ?_
  · rw [← h, List.map_map]
    congr 1
    apply List.map_congr_left
    rintro ⟨l, n⟩ hm
    have := ((a.mem l n).mp hm).1
    show n = (List.count (e, l) (ps.filter fun p => decide (p.1 = e)) : Int)
    rw [List.count_filter (by simp)]
    exact this
  · have := a.ris.keys
    rw [List.Nodup, List.pairwise_map] at this ⊢
    exact this.imp fun {p q} hpq z => hpq (congrArg Prod.snd z)
  · rintro ⟨e', l⟩ hm
    obtain ⟨h1, h2⟩ := List.mem_filter.mp hm
    have h2' : e' = e := by simpa using h2
    subst h2'
    exact List.mem_map.mpr ⟨(l, (ps.count (e', l) : Int)), (a.mem l _).mpr ⟨rfl, by
      have := List.count_pos_iff.mpr h1
      omega⟩, rfl⟩
theorem IsTable.total {ps : List (S × S)} {tb : List (S × List (S × Int))} (a : IsTable ps tb) : (tb.map fun r => (r.2.map (·.2)).sum).sum = (ps.length : Int) := by
  have h := sum_counts ps (tb.flatMap fun r => r.2.map fun p => (r.1, p.1)) ?_ ?_
  · rw [← h, List.map_flatMap]
    have : ∀ (tb : List (S × List (S × Int))), (∀ e xs, (e, xs) ∈ tb → IsRow ps e xs) → (tb.map fun r => (r.2.map (·.2)).sum).sum = (tb.flatMap fun r => (r.2.map fun p => (r.1, p.1)).map fun k => (ps.count k : Int)).sum := by
      intro tb
      induction tb with
      | nil => intro _; rfl
      | cons r t ih =>
        intro hr
        obtain ⟨e, xs⟩ := r
        rw [List.map_cons, List.sum_cons, List.flatMap_cons, List.sum_append, ih fun e' xs' hm => hr e' xs' (List.mem_cons_of_mem _ hm)]
        congr 1
        rw [List.map_map]
        congr 1
        apply List.map_congr_left
        rintro ⟨l, n⟩ hm
        exact (((hr e xs (List.mem_cons_self ..)).mem l n).mp hm).1
    exact this tb a.row
  · have : ∀ (tb : List (S × List (S × Int))), Ris tb → (∀ e xs, (e, xs) ∈ tb → IsRow ps e xs) → (tb.flatMap fun r => r.2.map fun p => (r.1, p.1)).Nodup := by
      intro tb
      induction tb with
      | nil => intro _ _; simp
      | cons r t ih =>
        intro hr hrow
        obtain ⟨e, xs⟩ := r
        rw [List.flatMap_cons]
        refine List.nodup_append.mpr ⟨?_, ih (List.pairwise_cons.mp hr).2 fun e' xs' hm => hrow e' xs' (List.mem_cons_of_mem _ hm), ?_⟩
        · have := (hrow e xs (List.mem_cons_self ..)).ris.keys
          rw [List.Nodup, List.pairwise_map] at this ⊢
          exact this.imp fun {p q} hpq z => hpq (congrArg Prod.snd z)
        · intro p hp q hq epq
          obtain ⟨z, _, rfl⟩ := List.mem_map.mp hp
          obtain ⟨r', hr', hz'⟩ := List.mem_flatMap.mp hq
          obtain ⟨z', _, e2⟩ := List.mem_map.mp hz'
          have : e = r'.1 := by
            have := congrArg Prod.fst (epq.trans e2.symm)
            exact this
          have hlt := (List.pairwise_cons.mp hr).1 r' hr'
          exact s_irr _ (this ▸ hlt)
    exact this tb a.ris a.row
  · rintro ⟨e, l⟩ hm
    obtain ⟨xs, hx⟩ := (a.has e).mpr ⟨l, hm⟩
    refine List.mem_flatMap.mpr ⟨(e, xs), hx, List.mem_map.mpr ⟨(l, (ps.count (e, l) : Int)), ((a.row e xs hx).mem l _).mpr ⟨rfl, ?_⟩, rfl⟩⟩
    have := List.count_pos_iff.mpr hm
    omega
theorem pairsB_append (o : Nat) (a b : List S) : pairsB o (a ++ b) = pairsB o a ++ pairsB o b := by
  unfold pairsB; rw [List.flatMap_append]
theorem pairsB_length (o : Nat) (a : List S) : ((pairsB o a).length : Int) = (a.map fun x => (x.length : Int) + 1).sum := by
  induction a with
  | nil => rfl
  | cons x r ih =>
    have e1 : pairsB o (x :: r) = pairs1 o x ++ pairsB o r := rfl
    rw [e1, List.length_append, List.map_cons, List.sum_cons, ← ih]
    simp [pairs1]
theorem endOf_short {t : S} {o : Nat} (h : t.length ≤ o) : endOf t o = t := by
  unfold endOf
  have : t.length - o = 0 := by omega
  rw [this, List.drop_zero]
end Kn
end
section
set_option autoImplicit false
namespace Kn
def gcdI (a b : Int) : Int := (Int.gcd a b : Int)
def low (u d : Int) : Int × Int := (u / gcdI u d, d / gcdI u d)
structure Fq (q : Int × Int) : Prop where
  up : 0 ≤ q.1
  dn : 0 < q.2
  co : Int.gcd q.1 q.2 = 1
theorem gcdI_pos {u d : Int} (hd : 0 < d) : 0 < gcdI u d := by
  have : 0 < Int.gcd u d := Int.gcd_pos_iff.mpr (.inr (by omega))
  unfold gcdI; omega
theorem gcdI_u (u d : Int) : u = gcdI u d * (u / gcdI u d) := (Int.mul_ediv_cancel' (by unfold gcdI; exact Int.gcd_dvd_left ..)).symm
theorem gcdI_d (u d : Int) : d = gcdI u d * (d / gcdI u d) := (Int.mul_ediv_cancel' (by unfold gcdI; exact Int.gcd_dvd_right ..)).symm
theorem low_cross {u d : Int} (hd : 0 < d) : (low u d).1 * d = u * (low u d).2 := by
  have h1 := gcdI_u u d
  have h2 := gcdI_d u d
  show u / gcdI u d * d = u * (d / gcdI u d)
  generalize gcdI u d = g at *
  generalize u / g = a at *
  generalize d / g = b at *
  rw [h1, h2, ← Int.mul_assoc, Int.mul_comm a g]
theorem low_fq {u d : Int} (hu : 0 ≤ u) (hd : 0 < d) : Fq (low u d) := by
  have hg := gcdI_pos (u := u) hd
  refine ⟨Int.ediv_nonneg hu (Int.le_of_lt hg), ?_, ?_⟩
  · have h2 := gcdI_d u d
    show 0 < d / gcdI u d
    rcases Int.lt_trichotomy (d / gcdI u d) 0 with h | h | h
    · have := Int.mul_neg_of_pos_of_neg hg h
      omega
    · rw [h, Int.mul_zero] at h2; omega
    · exact h
  · show Int.gcd (u / gcdI u d) (d / gcdI u d) = 1
    unfold gcdI at *
    have hg' : 0 < Int.gcd u d := by omega
    rw [Int.gcd_ediv (Int.gcd_dvd_left ..) (Int.gcd_dvd_right ..)]
    simp
    exact Nat.div_self hg'
theorem Fq.ext {p q : Int × Int} (a : Fq p) (b : Fq q) (h : p.1 * q.2 = q.1 * p.2) : p = q := by
  obtain ⟨p1, p2⟩ := p
  obtain ⟨q1, q2⟩ := q
  obtain ⟨a1, a2, a3⟩ := a
  obtain ⟨b1, b2, b3⟩ := b
  dsimp only at *
  obtain ⟨x, rfl⟩ := Int.eq_ofNat_of_zero_le a1
  obtain ⟨y, rfl⟩ := Int.eq_ofNat_of_zero_le (Int.le_of_lt a2)
  obtain ⟨z, rfl⟩ := Int.eq_ofNat_of_zero_le b1
  obtain ⟨w, rfl⟩ := Int.eq_ofNat_of_zero_le (Int.le_of_lt b2)
  have h' : x * w = z * y := by exact_mod_cast h
  have a3' : Nat.gcd x y = 1 := by simpa [Int.gcd] using a3
  have b3' : Nat.gcd z w = 1 := by simpa [Int.gcd] using b3
  have hy : 0 < y := by omega
  have hw : 0 < w := by omega
  have d1 : y ∣ w := Nat.Coprime.dvd_of_dvd_mul_left (m := x) (by rw [Nat.Coprime, Nat.gcd_comm]; exact a3') (by rw [h']; exact Nat.dvd_mul_left ..)
  have d2 : w ∣ y := Nat.Coprime.dvd_of_dvd_mul_left (m := z) (by rw [Nat.Coprime, Nat.gcd_comm]; exact b3') (by rw [← h']; exact Nat.dvd_mul_left ..)
  have e : y = w := Nat.dvd_antisymm d1 d2
  subst e
  have : x = z := Nat.eq_of_mul_eq_mul_right hy h'
  rw [this]
theorem low_ext {u d u' d' : Int} (hu : 0 ≤ u) (hd : 0 < d) (hu' : 0 ≤ u') (hd' : 0 < d') (h : u * d' = u' * d) : low u d = low u' d' := by
  refine Fq.ext (low_fq hu hd) (low_fq hu' hd') ?_
  have c1 := low_cross (u := u) hd
  have c2 := low_cross (u := u') hd'
  generalize low u d = p at *
  generalize low u' d' = q at *
  have : (p.1 * q.2) * (d * d') = (q.1 * p.2) * (d * d') := by
    calc (p.1 * q.2) * (d * d') = (p.1 * d) * (q.2 * d') := by ac_rfl
      _ = (u * p.2) * (q.2 * d') := by rw [c1]
      _ = (u * d') * (p.2 * q.2) := by ac_rfl
      _ = (u' * d) * (p.2 * q.2) := by rw [h]
      _ = (u' * q.2) * (p.2 * d) := by ac_rfl
      _ = (q.1 * d') * (p.2 * d) := by rw [c2]
      _ = (q.1 * p.2) * (d * d') := by ac_rfl
  exact Int.eq_of_mul_eq_mul_right (by have := Int.mul_pos hd hd'; omega) this
theorem low_le {u d : Int} (hu : 0 ≤ u) (hd : 0 < d) : (low u d).2 ≤ d ∧ (low u d).1 ≤ u := by
  have hg := gcdI_pos (u := u) hd
  exact ⟨Int.ediv_le_self _ (by omega), Int.ediv_le_self _ hu⟩
def tms (p q : Int × Int) : Int × Int := low (p.1 * q.1) (p.2 * q.2)
def adds (p q : Int × Int) : Int × Int := low (p.1 * q.2 + q.1 * p.2) (p.2 * q.2)
def lss (p q : Int × Int) : Bool := decide (p.1 * q.2 < q.1 * p.2)
theorem tms_fq {p q : Int × Int} (a : Fq p) (b : Fq q) : Fq (tms p q) := low_fq (Int.mul_nonneg a.up b.up) (Int.mul_pos a.dn b.dn)
theorem fq01 : Fq (0, 1) := ⟨by decide, by decide, by decide⟩
theorem fq11 : Fq (1, 1) := ⟨by decide, by decide, by decide⟩
theorem low_zero {d : Int} (hd : 0 < d) : low 0 d = (0, 1) := by
  refine Fq.ext (low_fq (Int.le_refl _) hd) fq01 ?_
  have := low_cross (u := 0) hd
  rw [Int.zero_mul] at this
  have h0 : (low 0 d).1 = 0 := by
    rcases Int.mul_eq_zero.mp this with h | h
    · exact h
    · omega
  rw [h0]; simp
theorem low_self {d : Int} (hd : 0 < d) : low d d = (1, 1) := by
  refine Fq.ext (low_fq (Int.le_of_lt hd) hd) fq11 ?_
  have := low_cross (u := d) hd
  rw [Int.mul_comm] at this
  have := Int.eq_of_mul_eq_mul_left (by omega) this
  rw [this]
  exact Int.mul_comm _ _
theorem low_le1 {u d : Int} (hu : 0 ≤ u) (hd : 0 < d) (h : u ≤ d) : (low u d).1 ≤ (low u d).2 := by
  have f := low_fq hu hd
  have c := low_cross (u := u) hd
  by_cases hh : (low u d).1 ≤ (low u d).2
  · exact hh
  · exfalso
    have h1 : (low u d).2 + 1 ≤ (low u d).1 := by omega
    have h2 : ((low u d).2 + 1) * d ≤ (low u d).1 * d := Int.mul_le_mul_of_nonneg_right h1 (Int.le_of_lt hd)
    have h3 : u * (low u d).2 ≤ d * (low u d).2 := Int.mul_le_mul_of_nonneg_right h (Int.le_of_lt f.dn)
    rw [Int.add_mul, Int.one_mul, Int.mul_comm (low u d).2 d] at h2
    omega
theorem tms_le1 {p q : Int × Int} (a : Fq p) (b : Fq q) (hp : p.1 ≤ p.2) (hq : q.1 ≤ q.2) : (tms p q).1 ≤ (tms p q).2 :=
  low_le1 (Int.mul_nonneg a.up b.up) (Int.mul_pos a.dn b.dn) (Int.mul_le_mul hp hq b.up (Int.le_of_lt a.dn))
theorem lss_irr (p : Int × Int) : lss p p = false := by simp [lss]
theorem lss_asym {p q : Int × Int} (h : lss p q = true) : lss q p = false := by
  simp only [lss, decide_eq_true_eq, decide_eq_false_iff_not] at *
  omega
end Kn
end
section
set_option autoImplicit false
set_option linter.all false
namespace Kn
def tot (ps : List (S × S)) (e : S) : Nat := (ps.filter fun p => p.1 = e).length
def part (ps : List (S × S)) (e l : S) : Int × Int := if ps.count (e, l) = 0 then (0, 1) else low (ps.count (e, l) : Int) (tot ps e : Int)
def shareG (ps : List (S × S)) (qs : List (S × S)) : Int × Int := qs.foldl (fun w p => tms w (part ps p.1 p.2)) (1, 1)
def shareOf (ps : List (S × S)) (o : Nat) (nm : S) : Int × Int := shareG ps (pairs1 o nm)
theorem count_le_tot (ps : List (S × S)) (e l : S) : ps.count (e, l) ≤ tot ps e := by
  unfold tot
  rw [← List.count_filter (l := ps) (p := fun p => decide (p.1 = e)) (a := (e, l)) (by simp)]
  exact List.count_le_length
theorem part_fq (ps : List (S × S)) (e l : S) : Fq (part ps e l) := by
  unfold part
  split
  · exact fq01
  · have := count_le_tot ps e l
    exact low_fq (by omega) (by omega)
theorem part_le1 (ps : List (S × S)) (e l : S) : (part ps e l).1 ≤ (part ps e l).2 := by
  unfold part
  split
  · decide
  · have := count_le_tot ps e l
    exact low_le1 (by omega) (by omega) (by omega)
theorem part_none {ps : List (S × S)} {e l : S} (h : (e, l) ∉ ps) : part ps e l = (0, 1) := by
  unfold part
  rw [if_pos (List.count_eq_zero.mpr h)]
theorem part_dn {ps : List (S × S)} (e l : S) (h : 1 ≤ ps.length) : (part ps e l).2 ≤ (ps.length : Int) := by
  unfold part
  split
  · show (1 : Int) ≤ _; omega
  · have h1 := count_le_tot ps e l
    have h2 : tot ps e ≤ ps.length := List.length_filter_le _ _
    have := (low_le (u := (ps.count (e, l) : Int)) (d := (tot ps e : Int)) (by omega) (by omega)).1
    omega
theorem foldG_fq (ps : List (S × S)) : ∀ (qs : List (S × S)) (w : Int × Int), Fq w → Fq (qs.foldl (fun w p => tms w (part ps p.1 p.2)) w)
  | [], w, h => h
  | q :: qs, w, h => foldG_fq ps qs _ (tms_fq h (part_fq ps q.1 q.2))
theorem foldG_le1 (ps : List (S × S)) : ∀ (qs : List (S × S)) (w : Int × Int), Fq w → w.1 ≤ w.2 → (qs.foldl (fun w p => tms w (part ps p.1 p.2)) w).1 ≤ (qs.foldl (fun w p => tms w (part ps p.1 p.2)) w).2
  | [], w, _, h => h
  | q :: qs, w, f, h => foldG_le1 ps qs _ (tms_fq f (part_fq ps q.1 q.2)) (tms_le1 f (part_fq ps q.1 q.2) h (part_le1 ps q.1 q.2))
theorem foldG_dn {ps : List (S × S)} (h1 : 1 ≤ ps.length) : ∀ (qs : List (S × S)) (w : Int × Int) (k : Nat), Fq w → w.2 ≤ (ps.length : Int) ^ k → (qs.foldl (fun w p => tms w (part ps p.1 p.2)) w).2 ≤ (ps.length : Int) ^ (k + qs.length)
  | [], w, k, _, h => h
  | q :: qs, w, k, f, h => by
    have g := part_fq ps q.1 q.2
    have e : k + (q :: qs).length = (k + 1) + qs.length := by simp; omega
    rw [e, List.foldl_cons]
    refine foldG_dn h1 qs _ (k + 1) (tms_fq f g) ?_
    have a1 : (tms w (part ps q.1 q.2)).2 ≤ w.2 * (part ps q.1 q.2).2 := (low_le (Int.mul_nonneg f.up g.up) (Int.mul_pos f.dn g.dn)).1
    have a2 : w.2 * (part ps q.1 q.2).2 ≤ (ps.length : Int) ^ k * (ps.length : Int) := Int.mul_le_mul h (part_dn q.1 q.2 h1) (Int.le_of_lt g.dn) (by have := f.dn; omega)
    rw [Int.pow_succ]
    omega
theorem share_fq (ps : List (S × S)) (o : Nat) (nm : S) : Fq (shareOf ps o nm) := foldG_fq ps _ _ fq11
theorem share_le1 (ps : List (S × S)) (o : Nat) (nm : S) : (shareOf ps o nm).1 ≤ (shareOf ps o nm).2 := foldG_le1 ps _ _ fq11 (by decide)
def min2 (a b : S) : S := if b < a then b else a
def lkl (sa sb : Int × Int) (a b : S) : S := if lss sa sb = true then b else if lss sb sa = true then a else min2 a b
theorem s_tri (a b : S) (h1 : ¬ a < b) (h2 : ¬ b < a) : a = b := List.le_antisymm (List.not_lt.mp h2) (List.not_lt.mp h1)
theorem min2_comm (a b : S) : min2 a b = min2 b a := by
  unfold min2
  by_cases h1 : b < a
  · have h2 : ¬ a < b := fun z => s_irr _ (s_tr h1 z)
    rw [if_pos h1, if_neg h2]
  · by_cases h2 : a < b
    · rw [if_neg h1, if_pos h2]
    · rw [if_neg h1, if_neg h2]; exact s_tri a b h2 h1
theorem min2_or (a b : S) : min2 a b = a ∨ min2 a b = b := by
  unfold min2; split
  · exact .inr rfl
  · exact .inl rfl
theorem lkl_comm (sa sb : Int × Int) (a b : S) : lkl sa sb a b = lkl sb sa b a := by
  unfold lkl
  cases h1 : lss sa sb with
  | true => rw [lss_asym h1]; simp
  | false =>
    cases h2 : lss sb sa with
    | true => simp
    | false => simp [min2_comm a b]
theorem lkl_or (sa sb : Int × Int) (a b : S) : lkl sa sb a b = a ∨ lkl sa sb a b = b := by
  unfold lkl
  split
  · exact .inr rfl
  · split
    · exact .inl rfl
    · exact min2_or a b
theorem lss_zero {p : Int × Int} : lss (0, 1) p = decide (0 < p.1) := by
  simp only [lss]
  congr 1
  simp
end Kn
end
section
set_option linter.all false
namespace Kn
def prodI : List Int → Int
  | [] => 1
  | x :: r => x * prodI r
def upsP (ps qs : List (S × S)) : List Int := qs.map fun p => (part ps p.1 p.2).1
def dnsP (ps qs : List (S × S)) : List Int := qs.map fun p => (part ps p.1 p.2).2
end Kn
end
section
set_option Elab.async false
set_option linter.all false
set_option maxRecDepth 100000
set_option maxHeartbeats 1000000
namespace Kn
open PySem L2
def Cal (P : Program) (w : World) (K : PySem.W.Frag) (mg : Str → Option Value) (base : Heap) (k : Nat) (x : Str) (ps : List Str) (sp : Sp) : Prop :=
  ∃ (f : Addr) (fd : FuncData), FnOk P w K mg base CX0 k f fd ps sp ∧ mg x = some (.ref f) ∧ PySem.W.keepIn K (.ref f) = true ∧ Binds K fd ps []
theorem pe_cal {X : Cx} {k : Nat} {x : Str} {ps : List Str} {sp : Sp} {p pos : Pos} {e : Expr} {es : List Expr} {t : TA} (C : Cal X.prog X.w X.K X.mg X.base k x ps sp) (hr : Room k X.A) (hg : Gl X x) (ha : PA X (e :: es) t)
    (hs : starEach (e :: es) X.env = (false, eval e X.env) :: starEach es X.env := by rfl) (hplain : (backTo pos (starEach es X.env)).any (·.1) = false := by rfl)
    (hdb : (x == ("__debug__" : Str)) = false := by decide) : PE X (.Call (.Name x p) (e :: es) [] pos) (tCall sp [] E0 t) := by
  obtain ⟨f, fd, G, hm, kp, b⟩ := C
  exact pe_call G hr hg hm kp b .nil pass0 ha hdb hs hplain
abbrev tx (x : S) : Str := ⟨x.toArray⟩
abbrev sv (x : S) : V := .str (tx x)
theorem tx_cps (x : S) : (tx x).cps.toList = x := by simp [tx]
theorem tx_len (x : S) : (tx x).length = x.length := by simp [tx, Str.length]
theorem range_item {n i : Nat} {x : V} (h : ((List.range n).map fun (i : Nat) => V.int (0 + (i : Int)))[i]? = some x) : i < n ∧ x = .int i := by
  have hi : i < n := by
    have := (List.getElem?_eq_some_iff.mp h).1
    simpa using this
  refine ⟨hi, ?_⟩
  rw [List.getElem?_map, List.getElem?_range hi] at h
  have := Option.some.inj h
  rw [← this]
  show V.int (0 + (i : Int)) = V.int i
  rw [Int.zero_add]
theorem ys1 {ys : St} (h : ys.length = 1) : ∃ y, ys = [y] := by
  match ys, h with
  | [y], _ => exact ⟨y, rfl⟩
theorem ys2 {ys : St} (h : ys.length = 2) : ∃ y z, ys = [y, z] := by
  match ys, h with
  | [y, z], _ => exact ⟨y, z, rfl⟩
structure Blt (mg : Str → Option Value) : Prop where
  len : mg "len" = none
  range : mg "range" = none
  all : mg "all" = none
  isinstance : mg "isinstance" = none
  str : mg "str" = none
  tuple : mg "tuple" = none
  int : mg "int" = none
  bool : mg "bool" = none
  sorted : mg "sorted" = none
  sum : mg "sum" = none
  min : mg "min" = none
section
variable {P : Program} {w : World} {K : PySem.W.Frag} {mg : Str → Option Value} {base : Heap}
theorem cut_end (t : S) (o : Nat) (ho : 1 ≤ o) : cutS (tx t) (some (-(o : Int))) none = tx (endOf t o) := by
  unfold cutS
  rw [tx_len, tx_cps]
  have e1 : HT.sIx t.length 0 (some (-(o : Int))) = t.length - o := by
    show (if -(o : Int) < 0 then (-(o : Int) + (t.length : Int)).toNat else _) = _
    rw [if_pos (by omega)]; omega
  have e2 : HT.sIx t.length t.length none = t.length := rfl
  rw [e1, e2]
  unfold endOf
  rw [List.take_of_length_le (by rw [List.length_drop]; omega)]
theorem cut_to (t : S) (p : Nat) : cutS (tx t) none (some (p : Int)) = tx (t.take p) := by
  unfold cutS
  rw [tx_len, tx_cps, HT.sIx_nat]
  show tx ((t.drop 0).take (min p t.length - 0)) = _
  rw [List.drop_zero, Nat.sub_zero, ← List.take_eq_take_min]
theorem cut_one (t : S) (p : Nat) : cutS (tx t) (some (p : Int)) (some ((p : Int) + 1)) = tx ((t.drop p).take 1) := by
  unfold cutS
  rw [tx_len, tx_cps, HT.sIx_nat, show ((p : Int) + 1) = ((p + 1 : Nat) : Int) from rfl, HT.sIx_nat]
  congr 1
  by_cases h : p < t.length
  · have e1 : min p t.length = p := by omega
    have e2 : min (p + 1) t.length - p = 1 := by omega
    rw [e1, e2]
  · have e1 : min p t.length = t.length := by omega
    rw [e1, List.drop_of_length_le (Nat.le_refl _), List.drop_of_length_le (by omega)]
    simp
def spEnd : Sp := fun vs H Q _ => ∃ (t : S) (o : Nat), vs = [sv t, .int o] ∧ 1 ≤ o ∧ t.length ≤ 64 ∧ Q (sv (endOf t o)) H
abbrev sEnd : Stmt := top 22
theorem scEnd : FnScope ["text", "order"] ["text", "order"] (defScope sEnd) := ⟨rfl, rfl, rfl, by decide +kernel, rfl, by decide +kernel, by decide +kernel⟩
theorem ok_end {f : Addr} {fd : FuncData} (F : Fun K "end_of" "end_of" sEnd f fd) : FnOk P w K mg base CX0 1 f fd ["text", "order"] spEnd := by
  refine F.ok scEnd (fun vs H Q E h => ?_) (fun cdv A outer s H vs Q E hr h => ?_)
  · obtain ⟨t, o, rfl, _⟩ := h; rfl
  · obtain ⟨t, o, rfl, ho, hl, k⟩ := h
    refine ⟨_, pss_one (ps_ret (pe_sliceS (pv 0) (po_some (pe_un un_neg (pv 1))) po_none)), ?_⟩
    refine ⟨_, rfl, _, rfl, _, rfl, _, rfl, _, rfl, ?_, ?_⟩
    · rw [tx_len, sizeLine_eq]; omega
    · rw [cut_end t o ho]; exact k
def pr (o : Nat) (t : S) (p : Nat) : S × S := (endOf (t.take p) o, (t.drop p).take 1)
def elD (p : S × S) : PyData := .tuple [.str (tx p.1), .str (tx p.2)]
def spEnds (K : PySem.W.Frag) : Sp := fun vs H Q _ => ∃ (t : S) (o : Nat), vs = [sv t, .int o] ∧ 1 ≤ o ∧ t.length ≤ 64 ∧ ∀ a xs H', Same H H' → H a = none → H' a = some (.lst xs) → Reps K H' ((pairs1 o t).map elD) xs → Q (.ref a) H'
abbrev sEnds : Stmt := top 23
theorem scEnds : FnScope ["name", "order"] ["name", "order"] (defScope sEnds) := ⟨rfl, rfl, rfl, by decide +kernel, rfl, by decide +kernel, by decide +kernel⟩
theorem ndEnds : (["name", "order", "place"] : List Str).Nodup := by decide +kernel
theorem ok_ends {f : Addr} {fd : FuncData} (F : Fun K "ends_and_letters" "ends_and_letters" sEnds f fd) (B : Blt mg) (cEnd : Cal P w K mg base 1 "end_of" ["text", "order"] spEnd) : FnOk P w K mg base CX0 2 f fd ["name", "order"] (spEnds K) := by
  refine F.ok scEnds (fun vs H Q E h => ?_) (fun cdv A outer s H vs Q E hr h => ?_)
  · obtain ⟨t, o, rfl, _⟩ := h; rfl
  · obtain ⟨t, o, rfl, ho, hl, k⟩ := h
    refine ⟨_, pss_one (ps_ret (pe_comp (N := ["name", "order", "place"]) (caps := [0, 1]) rfl (compScope_of (by kernel_rfl))
      (pi_range1 rfl B.range (pa_cons (pe_op op_add (pe_callB call_len_str (by rfl) B.len PySem.boot_len (pa_cons (pv 0) pa_nil)) pe_int) pa_nil))
      (fun cl C s H ex => pg_name (i := 2) ndEnds rfl (Or.inl rfl))
      (fun cl C s H ex => pf_nil)
      (fun cl C s H ex => pe_tup (pa_cons (pe_cal cEnd hr rfl (pa_cons (pe_sliceS (pv 0) po_none (po_some (pv 2))) (pa_cons (pv 1) pa_nil)))
        (pa_cons (pe_sliceS (pv 0) (po_some (pv 2)) (po_some (pe_op op_add (pv 2) pe_int))) pa_nil))))), ?_⟩
    refine ⟨_, rfl, _, rfl, ?_, _, _, rfl, rfl, _, rfl, ?_, ?_, ?_⟩
    · rw [tx_len, sizeLine_eq]; omega
    · rw [tx_len]; omega
    · rw [tx_len]; omega
    have hn : ((tx t).length : Int) + 1 = ((t.length + 1 : Nat) : Int) := by rw [tx_len]; rfl
    have hnn : (((tx t).length : Int) + 1).toNat = t.length + 1 := by rw [hn]; rfl
    refine comp_known0 (known_range 0 _) [some (sv t), some (.int o)] 1 (by rw [List.length_map, List.length_range, hnn]; omega) (fun i acc H' => Same H H' ∧ acc.length = i ∧ Reps K H' (((List.range i).map (pr o t)).map elD) acc)
      ⟨Same.refl H, rfl, rfl⟩ (fun i acc H' _ h => ⟨trivial, Nat.le_of_eq h.2.1⟩) ?_ ?_
    · rintro i x acc H' ys Nx hN hx hy ⟨sm, hal, rp⟩
      obtain ⟨y, rfl⟩ := ys1 hy
      rw [hnn] at hx
      obtain ⟨hi, rfl⟩ := range_item hx
      refine ⟨_, rfl, _, rfl, _, rfl, _, rfl, (by rw [tx_len, sizeLine_eq]; omega), _, rfl, t.take i, o, (by rw [cut_to]; rfl), ho, (by rw [List.length_take]; omega), ?_⟩
      refine ⟨_, rfl, _, rfl, _, rfl, _, rfl, _, _, rfl, rfl, _, rfl, _, rfl, (by rw [tx_len, sizeLine_eq]; omega), ?_⟩
      refine ⟨by show 2 ≤ sizeLine; decide, fun p hp => hN _ _ [some (.int i)] rfl ⟨sm.upd_new (sm.free hp), by rw [List.length_append, hal]; rfl, ?_⟩⟩
      rw [List.range_succ, List.map_append, List.map_append]
      refine Reps.append (Reps.same (Same.upd1 hp) _ _ rp) (Reps.one ⟨p, _, rfl, .of upd_same, ?_⟩)
      rw [cut_one]
      exact ⟨_, _, rfl, rfl, _, _, rfl, rfl, rfl⟩
    · rintro acc H' ⟨sm, hal, rp⟩ D hD
      refine k D acc _ (sm.upd_new (sm.free hD)) (sm.free hD) upd_same (Reps.same (Same.upd1 hD) _ _ ?_)
      rw [List.length_map, List.length_range, hnn] at rp
      exact rp
def isNm (x : S) : Prop := 1 ≤ x.length ∧ x.length ≤ 8 ∧ ∀ c ∈ x, 97 ≤ c ∧ c ≤ 122
def letters : Str := ⟨#[97, 98, 99, 100, 101, 102, 103, 104, 105, 106, 107, 108, 109, 110, 111, 112, 113, 114, 115, 116, 117, 118, 119, 120, 121, 122]⟩
structure Cst (K : PySem.W.Frag) (mg : Str → Option Value) : Prop where
  letters : ∃ t, mg "LETTERS" = some (.str letters t)
  ml : ∃ t, mg "MOST_LETTERS" = some (.int 8 t)
  mn : ∃ t, mg "MOST_NAMES" = some (.int 8 t)
  mo : ∃ t, mg "MOST_ORDER" = some (.int 3 t)
  ib : PySem.W.kitOne K (.type "int") (.type "bool") = some false
def spIsName : Sp := fun vs H Q _ => ∃ x : S, vs = [sv x] ∧ isNm x ∧ ∀ H', Same H H' → Q (.bl true) H'
abbrev sIsName : Stmt := top 15
theorem scIsName : FnScope ["thing"] ["thing"] (defScope sIsName) := ⟨rfl, rfl, rfl, by decide +kernel, rfl, by decide +kernel, by decide +kernel⟩
theorem nd1 : (["letter"] : List Str).Nodup := by decide +kernel
def bkV (bk : List S) : List V := bk.map sv
structure isBk (bk : List S) : Prop where
  lo : 1 ≤ bk.length
  hi : bk.length ≤ 8
  nm : ∀ x ∈ bk, isNm x
def spIsBook : Sp := fun vs H Q _ => ∃ (a : Addr) (bk : List S), vs = [.ref a] ∧ H a = some (.tup (bkV bk)) ∧ isBk bk ∧ ∀ H', Same H H' → Q (.bl true) H'
abbrev sIsBook : Stmt := top 16
theorem scIsBook : FnScope ["thing"] ["thing"] (defScope sIsBook) := ⟨rfl, rfl, rfl, by decide +kernel, rfl, by decide +kernel, by decide +kernel⟩
theorem nd2 : (["name"] : List Str).Nodup := by decide +kernel
def spIsWhole : Sp := fun vs H Q _ => ∃ o a b : Nat, vs = [.int o, .int a, .int b] ∧ a ≤ o ∧ o ≤ b ∧ Q (.bl true) H
abbrev sIsWhole : Stmt := top 17
theorem scIsWhole : FnScope ["thing", "least", "most"] ["thing", "least", "most"] (defScope sIsWhole) := ⟨rfl, rfl, rfl, by decide +kernel, rfl, by decide +kernel, by decide +kernel⟩
def spIsOrder : Sp := fun vs H Q _ => ∃ o : Nat, vs = [.int o] ∧ 1 ≤ o ∧ o ≤ 3 ∧ Q (.bl true) H
abbrev sIsOrder : Stmt := top 18
theorem scIsOrder : FnScope ["thing"] ["thing"] (defScope sIsOrder) := ⟨rfl, rfl, rfl, by decide +kernel, rfl, by decide +kernel, by decide +kernel⟩
def spNeedBook : Sp := fun vs H Q _ => ∃ (a : Addr) (bk : List S), vs = [.ref a] ∧ H a = some (.tup (bkV bk)) ∧ isBk bk ∧ ∀ H', Same H H' → Q .non H'
abbrev sNeedBook : Stmt := top 19
theorem scNeedBook : FnScope ["thing"] ["thing"] (defScope sNeedBook) := ⟨rfl, rfl, rfl, by decide +kernel, rfl, by decide +kernel, by decide +kernel⟩
def spNeedOrder : Sp := fun vs H Q _ => ∃ o : Nat, vs = [.int o] ∧ 1 ≤ o ∧ o ≤ 3 ∧ Q .non H
abbrev sNeedOrder : Stmt := top 20
theorem scNeedOrder : FnScope ["thing"] ["thing"] (defScope sNeedOrder) := ⟨rfl, rfl, rfl, by decide +kernel, rfl, by decide +kernel, by decide +kernel⟩
def spNeedName : Sp := fun vs H Q _ => ∃ x : S, vs = [sv x] ∧ isNm x ∧ ∀ H', Same H H' → Q .non H'
abbrev sNeedName : Stmt := top 21
theorem scNeedName : FnScope ["thing"] ["thing"] (defScope sNeedName) := ⟨rfl, rfl, rfl, by decide +kernel, rfl, by decide +kernel, by decide +kernel⟩
end
end Kn
end
section
set_option Elab.async false
set_option linter.all false
set_option maxRecDepth 100000
set_option maxHeartbeats 1000000
namespace Kn
open PySem L2
theorem tx_inj {a b : S} (h : tx a = tx b) : a = b := by
  have := congrArg (fun z : Str => z.cps.toList) h
  simpa [tx] using this
section
variable {α : Type}
def encD (f : α → V) (l : List (S × α)) : List (Key × V) := encK (l.map fun p => (tx p.1, f p.2))
theorem encD_cons (f : α → V) (p : S × α) (l : List (S × α)) : encD f (p :: l) = ((Sum.inr (tx p.1) : Key), f p.2) :: encD f l := rfl
theorem encD_len (f : α → V) (l : List (S × α)) : (encD f l).length = l.length := by simp [encD, encK]
theorem key_eq {a b : S} : ((Sum.inr (tx a) : Key) = Sum.inr (tx b)) ↔ a = b := ⟨fun h => tx_inj (Sum.inr.inj h), fun h => by rw [h]⟩
theorem val_enc (f : α → V) (l : List (S × α)) (k : S) : valV (encD f l) (Sum.inr (tx k)) = (getA l k).map f := by
  induction l with
  | nil => rfl
  | cons p r ih =>
    rw [encD_cons]
    by_cases e : p.1 = k
    · rw [valV_pos (key_eq.mpr e)]
      obtain ⟨a, b⟩ := p
      have e' : a = k := e
      subst e'
      simp [getA]
    · rw [valV_neg (fun z => e (key_eq.mp z)), ih]
      obtain ⟨a, b⟩ := p
      have e' : ¬ a = k := e
      simp [getA, e']
theorem any_enc (f : α → V) (l : List (S × α)) (k : S) : ((encD f l).any fun kv => decide (kv.1 = (Sum.inr (tx k) : Key))) = decide (k ∈ l.map (·.1)) := by
  induction l with
  | nil => rfl
  | cons p r ih =>
    rw [encD_cons, List.any_cons, ih]
    by_cases e : p.1 = k
    · have : decide ((Sum.inr (tx p.1) : Key) = Sum.inr (tx k)) = true := decide_eq_true (key_eq.mpr e)
      rw [this, Bool.true_or]
      exact (decide_eq_true (by rw [← e]; exact List.mem_cons_self ..)).symm
    · have : decide ((Sum.inr (tx p.1) : Key) = Sum.inr (tx k)) = false := decide_eq_false (fun z => e (key_eq.mp z))
      rw [this, Bool.false_or]
      congr 1
      have e' : ¬ k = p.1 := fun z => e z.symm
      simp [e']
theorem put_enc (f : α → V) (l : List (S × α)) (k : S) (v : α) (nd : (l.map (·.1)).Nodup) : putK (encD f l) (Sum.inr (tx k)) (f v) = encD f (putA l k v) := by
  unfold putK
  rw [any_enc]
  by_cases hk : k ∈ l.map (·.1)
  · rw [if_pos (decide_eq_true hk)]
    induction l with
    | nil => cases hk
    | cons p r ih =>
      obtain ⟨a, b⟩ := p
      have nd' := List.nodup_cons.mp nd
      rw [encD_cons, List.map_cons]
      by_cases e : a = k
      · subst e
        have e1 : putA ((a, b) :: r) a v = (a, v) :: r := by simp [putA]
        rw [e1, encD_cons]
        congr 1
        · simp
        · have : ∀ q ∈ encD f r, (if q.1 = (Sum.inr (tx a) : Key) then (q.1, f v) else q) = q := fun q hq => by
            rw [if_neg]
            intro z
            obtain ⟨s, hs, e2⟩ := List.mem_map.mp hq
            obtain ⟨s', hs', e3⟩ := List.mem_map.mp hs
            have : s.1 = tx s'.1 := by rw [← e3]
            have h4 : q.1 = (Sum.inr (tx s'.1) : Key) := by rw [← e2, this]
            rw [h4] at z
            exact nd'.1 (List.mem_map.mpr ⟨s', hs', key_eq.mp z⟩)
          have h5 := List.map_congr_left this
          rw [h5]; simp
      · have e1 : putA ((a, b) :: r) k v = (a, b) :: putA r k v := by simp [putA, e]
        rw [e1, encD_cons]
        congr 1
        · rw [if_neg (fun z => e (key_eq.mp z))]
        · exact ih nd'.2 (by
            rcases List.mem_cons.mp hk with z | z
            · exact absurd z.symm e
            · exact z)
  · rw [if_neg (by simpa using hk)]
    clear nd
    induction l with
    | nil => rfl
    | cons p r ih =>
      obtain ⟨a, b⟩ := p
      have e : ¬ a = k := fun z => hk (by rw [← z]; exact List.mem_cons_self ..)
      have e1 : putA ((a, b) :: r) k v = (a, b) :: putA r k v := by simp [putA, e]
      rw [e1, encD_cons, encD_cons, List.cons_append, ih fun z => hk (List.mem_cons_of_mem _ z)]
theorem putA_len {β : Type} (l : List (S × β)) (k : S) (v : β) : (putA l k v).length ≤ l.length + 1 := by
  induction l with
  | nil => simp [putA]
  | cons p r ih =>
    obtain ⟨a, b⟩ := p
    by_cases e : a = k
    · simp [putA, e]
    · simp [putA, e]; omega
theorem putA_map {β γ : Type} (g : β → γ) (l : List (S × β)) (k : S) (v : β) : (putA l k v).map (fun p => (p.1, g p.2)) = putA (l.map fun p => (p.1, g p.2)) k (g v) := by
  induction l with
  | nil => rfl
  | cons p r ih =>
    obtain ⟨a, b⟩ := p
    by_cases e : a = k
    · simp [putA, e]
    · simp [putA, e, ih]
theorem getA_map {β γ : Type} (g : β → γ) (l : List (S × β)) (k : S) : getA (l.map fun p => (p.1, g p.2)) k = (getA l k).map g := by
  induction l with
  | nil => rfl
  | cons p r ih =>
    obtain ⟨a, b⟩ := p
    by_cases e : a = k
    · simp [getA, e]
    · simp [getA, e, ih]
theorem putA_mem {β : Type} {l : List (S × β)} {k : S} {v : β} {q : S × β} (h : q ∈ putA l k v) : q = (k, v) ∨ (q ∈ l ∧ (q.1 ≠ k ∨ (l.map (·.1)).Nodup → q.1 ≠ k)) := by
  induction l with
  | nil => simp [putA] at h; exact .inl h
  | cons p r ih =>
    obtain ⟨a, b⟩ := p
    by_cases e : a = k
    · subst e
      have e1 : putA ((a, b) :: r) a v = (a, v) :: r := by simp [putA]
      rw [e1] at h
      rcases List.mem_cons.mp h with z | z
      · exact .inl z
      · refine .inr ⟨List.mem_cons_of_mem _ z, ?_⟩
        rintro (w | w)
        · exact w
        · intro e2
          exact (List.nodup_cons.mp w).1 (by rw [← e2]; exact List.mem_map_of_mem (f := (·.1)) z)
    · have e1 : putA ((a, b) :: r) k v = (a, b) :: putA r k v := by simp [putA, e]
      rw [e1] at h
      rcases List.mem_cons.mp h with z | z
      · subst z
        exact .inr ⟨List.mem_cons_self .., fun _ => e⟩
      · rcases ih z with w | ⟨w1, w2⟩
        · exact .inl w
        · refine .inr ⟨List.mem_cons_of_mem _ w1, ?_⟩
          rintro (u | u)
          · exact u
          · exact w2 (.inr (List.nodup_cons.mp u).2)
theorem putA_new {β : Type} (l : List (S × β)) (k : S) (v : β) (h : k ∉ l.map (·.1)) : putA l k v = l ++ [(k, v)] := by
  induction l with
  | nil => rfl
  | cons q r ih =>
    obtain ⟨a, b⟩ := q
    have e : ¬ a = k := fun z => h (by rw [← z]; exact List.mem_cons_self ..)
    have e1 : putA ((a, b) :: r) k v = (a, b) :: putA r k v := by simp [putA, e]
    rw [e1, ih fun z => h (List.mem_cons_of_mem _ z)]; rfl
theorem putA_same {β γ : Type} (g : β → γ) (l : List (S × β)) (k : S) (v u : β) (h : getA l k = some u) (e : g v = g u) : (putA l k v).map (fun p => (p.1, g p.2)) = l.map fun p => (p.1, g p.2) := by
  induction l with
  | nil => cases h
  | cons p r ih =>
    obtain ⟨a, b⟩ := p
    by_cases ea : a = k
    · have : b = u := by simpa [getA, ea] using h
      subst this
      simp [putA, ea, e]
    · have h' : getA r k = some u := by simpa [getA, ea] using h
      simp [putA, ea, ih h']
theorem rows_len (ps : List (S × S)) : (rowsOf ps).length ≤ ps.length ∧ ∀ r ∈ rowsOf ps, r.2.length ≤ ps.length := by
  have key : ∀ (qs : List (S × S)) (rows : List (S × List (S × Int))) (n : Nat), (rows.length ≤ n ∧ ∀ r ∈ rows, r.2.length ≤ n) → (qs.foldl addP rows).length ≤ n + qs.length ∧ ∀ r ∈ qs.foldl addP rows, r.2.length ≤ n + qs.length := by
    intro qs
    induction qs with
    | nil => intro rows n h; simpa using h
    | cons q qs ih =>
      intro rows n h
      have := ih (addP rows q) (n + 1) ⟨?_, fun r hr => ?_⟩
      · rw [List.foldl_cons, List.length_cons]
        have e : n + (qs.length + 1) = n + 1 + qs.length := by omega
        rw [e]; exact this
      · have := putA_len rows q.1 (bump ((getA rows q.1).getD []) q.2)
        unfold addP; omega
      · rcases putA_mem hr with e | ⟨e, _⟩
        · rw [e]
          have h1 := putA_len ((getA rows q.1).getD []) q.2 ((getA ((getA rows q.1).getD []) q.2).getD 0 + 1)
          have h2 : ((getA rows q.1).getD []).length ≤ n := by
            cases g : getA rows q.1 with
            | none => simp
            | some row =>
              have hm : (q.1, row) ∈ rows := by
                clear h hr e h1
                induction rows with
                | nil => cases g
                | cons p r ih2 =>
                  obtain ⟨a, b⟩ := p
                  by_cases ea : a = q.1
                  · have : b = row := by simpa [getA, ea] using g
                    subst this; subst ea
                    exact List.mem_cons_self ..
                  · exact List.mem_cons_of_mem _ (ih2 (by simpa [getA, ea] using g))
              exact h.2 _ hm
          show (bump _ _).length ≤ _
          unfold bump; omega
        · have := h.2 r e; omega
  have := key ps [] 0 ⟨Nat.le_refl _, by simp⟩
  simpa [rowsOf] using this
end
abbrev rowV (row : List (S × Int)) : List (Key × V) := encD V.int row
structure RA (H0 H : Hp) (d : Addr) (ps : List (S × S)) (ra : List (S × Addr × List (S × Int))) : Prop where
  rows : ra.map (fun r => (r.1, r.2.2)) = rowsOf ps
  top : H d = some (.dK (encD (fun v : Addr × List (S × Int) => V.ref v.1) ra))
  row : ∀ r ∈ ra, H r.2.1 = some (.dK (rowV r.2.2))
  new : ∀ r ∈ ra, H0 r.2.1 = none ∧ r.2.1 ≠ d
  nda : (ra.map fun r => r.2.1).Nodup
def RowsAt (H : Hp) (d : Addr) (ps : List (S × S)) : Prop := ∃ ra : List (S × Addr × List (S × Int)), ra.map (fun r => (r.1, r.2.2)) = rowsOf ps ∧ H d = some (.dK (encD (fun v : Addr × List (S × Int) => V.ref v.1) ra)) ∧ ∀ r ∈ ra, H r.2.1 = some (.dK (rowV r.2.2))
theorem RowsAt.same {H H' : Hp} {d : Addr} {ps : List (S × S)} (h : RowsAt H d ps) (e : Same H H') : RowsAt H' d ps := by
  obtain ⟨ra, h1, h2, h3⟩ := h
  exact ⟨ra, h1, e _ _ h2, fun r hr => e _ _ (h3 r hr)⟩
section
variable {P : Program} {w : World} {K : PySem.W.Frag} {mg : Str → Option Value} {base : Heap}
def spRows : Sp := fun vs H Q _ => ∃ (a : Addr) (bk : List S) (o : Nat), vs = [.ref a, .int o] ∧ H a = some (.tup (bkV bk)) ∧ bk.length ≤ 8 ∧ (∀ x ∈ bk, x.length ≤ 8) ∧ 1 ≤ o ∧ ∀ d H', Same H H' → H d = none → RowsAt H' d (pairsB o bk) → Q (.ref d) H'
abbrev sRows : Stmt := top 24
theorem scRows : FnScope ["book", "order", "rows", "name", "end", "letter", "row"] ["book", "order"] (defScope sRows) := ⟨rfl, rfl, rfl, by decide +kernel, rfl, by decide +kernel, by decide +kernel⟩
theorem keys_nd {H0 H : Hp} {d : Addr} {ps : List (S × S)} {ra : List (S × Addr × List (S × Int))} (R : RA H0 H d ps ra) : (ra.map (·.1)).Nodup := by
  have h := (rows_ok ps).nd
  rw [← R.rows, List.map_map] at h
  exact h
theorem RA.step {H0 H H2 : Hp} {d ad : Addr} {ps : List (S × S)} {ra : List (S × Addr × List (S × Int))} (R : RA H0 H d ps ra) (p : S × S) (row : List (S × Int)) (hrow : row = ((getA ra p.1).map (·.2)).getD [])
    (had : ∀ v, getA ra p.1 = some v → v.1 = ad) (hnew : getA ra p.1 = none → H0 ad = none ∧ ad ≠ d ∧ ad ∉ ra.map fun r => r.2.1)
    (h1 : H2 ad = some (.dK (rowV (bump row p.2)))) (h2 : H2 d = some (.dK (encD (fun v : Addr × List (S × Int) => V.ref v.1) (putA ra p.1 (ad, bump row p.2))))) (h3 : ∀ r ∈ ra, r.2.1 ≠ ad → H2 r.2.1 = some (.dK (rowV r.2.2))) :
    RA H0 H2 d (ps ++ [p]) (putA ra p.1 (ad, bump row p.2)) := by
  have nd := keys_nd R
  have isin : ∀ v, getA ra p.1 = some v → (p.1, v) ∈ ra := fun v hv => (getA_mem nd p.1 v).mpr hv
  have adr : ∀ r ∈ ra, r.1 ≠ p.1 → r.2.1 ≠ ad := fun r hr hne e => by
    cases g : getA ra p.1 with
    | none => exact (hnew g).2.2 (List.mem_map.mpr ⟨r, hr, e⟩)
    | some v =>
      have hv := isin v g
      have ev := had v g
      have : r = (p.1, v) := by
        obtain ⟨i, hi, ei⟩ := List.getElem_of_mem hr
        obtain ⟨j, hj, ej⟩ := List.getElem_of_mem hv
        have hij : i = j := by
          refine (List.getElem_inj (xs := ra.map fun r => r.2.1) (h₀ := by simpa using hi) (h₁ := by simpa using hj) R.nda).mp ?_
          rw [List.getElem_map, List.getElem_map, ei, ej]
          show r.2.1 = v.1
          rw [e, ev]
        subst hij
        rw [← ei, ← ej]
      exact hne (by rw [this])
  refine ⟨?_, h2, fun r hr => ?_, fun r hr => ?_, ?_⟩
  · rw [rowsOf_snoc, ← R.rows]
    unfold addP
    have e := putA_map (fun v : Addr × List (S × Int) => v.2) ra p.1 (ad, bump row p.2)
    rw [e]
    have e2 := getA_map (fun v : Addr × List (S × Int) => v.2) ra p.1
    rw [e2, ← hrow]
  · rcases putA_mem hr with e | ⟨e, e'⟩
    · rw [e]; exact h1
    · exact h3 r e (adr r e (e' (.inr nd)))
  · rcases putA_mem hr with e | ⟨e, _⟩
    · rw [e]
      cases g : getA ra p.1 with
      | none => exact ⟨(hnew g).1, (hnew g).2.1⟩
      | some v =>
        have := R.new _ (isin v g)
        rw [← had v g]; exact this
    · exact R.new r e
  · cases g : getA ra p.1 with
    | none =>
      have hk : p.1 ∉ ra.map (·.1) := getA_none.mp g
      have e := putA_new ra p.1 (ad, bump row p.2) hk
      rw [e, List.map_append]
      refine List.nodup_append.mpr ⟨R.nda, by simp, fun a ha b hb e2 => ?_⟩
      have : b = ad := by simpa using hb
      exact (hnew g).2.2 (by rw [← this, ← e2]; exact ha)
    | some v =>
      have e := putA_same (fun v : Addr × List (S × Int) => v.1) ra p.1 (ad, bump row p.2) v g (had v g).symm
      have e2 : (putA ra p.1 (ad, bump row p.2)).map (fun r => r.2.1) = ra.map fun r => r.2.1 := by
        have := congrArg (List.map Prod.snd) e
        rw [List.map_map, List.map_map] at this
        exact this
      rw [e2]; exact R.nda
def SameQ (H H' : Hp) : Prop := ∀ b o, H b = some o → (∀ kvs, o ≠ .dK kvs) → H' b = some o
theorem Same.q {H H' : Hp} (e : Same H H') : SameQ H H' := fun b o h _ => e b o h
theorem SameQ.trans {H H1 H2 : Hp} (a : SameQ H H1) (b : SameQ H1 H2) : SameQ H H2 := fun c o h hn => b c o (a c o h hn) hn
theorem SameQ.upd {H : Hp} {a : Addr} {kvs : List (Key × V)} {u : HO} (h : H a = some (.dK kvs)) : SameQ H (upd H a u) := fun b o e hn => by
  rw [upd_ne]
  · exact e
  · rintro rfl; rw [h] at e; exact hn kvs (Option.some.inj e).symm
theorem SameQ.sqL {H H' : Hp} (e : SameQ H H') {a : Addr} {xs : List V} (h : SqL K H a xs) : SqL K H' a xs := by
  rcases h with (h | ⟨o, h⟩) | h
  · exact .inl (.inl (e _ _ h (by intro z w; cases w)))
  · exact .inl (.inr ⟨o, e _ _ h (by intro z w; cases w)⟩)
  · exact .inr h
theorem SameQ.sqT {H H' : Hp} (e : SameQ H H') {a : Addr} {xs : List V} (h : SqT K H a xs) : SqT K H' a xs := by
  rcases h with (h | ⟨o, h⟩) | h
  · exact .inl (.inl (e _ _ h (by intro z w; cases w)))
  · exact .inl (.inr ⟨o, e _ _ h (by intro z w; cases w)⟩)
  · exact .inr h
mutual
theorem Rep.sameQ {H H' : Hp} (e : SameQ H H') : ∀ (d : PyData) (v : V), Rep K H d v → Rep K H' d v
  | .none, v, h => h
  | .bool b, v, h => h
  | .int i, v, h => h
  | .str x, v, h => h
  | .list ds, v, h => by
    obtain ⟨a, xs, h1, h2, h3⟩ := h
    exact ⟨a, xs, h1, e.sqL h2, Reps.sameQ e ds xs h3⟩
  | .tuple ds, v, h => by
    obtain ⟨a, xs, h1, h2, h3⟩ := h
    exact ⟨a, xs, h1, e.sqT h2, Reps.sameQ e ds xs h3⟩
  | .dict _, v, h => h
theorem Reps.sameQ {H H' : Hp} (e : SameQ H H') : ∀ (ds : List PyData) (xs : List V), Reps K H ds xs → Reps K H' ds xs
  | [], xs, h => h
  | d :: ds, xs, h => by
    obtain ⟨y, ys, h1, h2, h3⟩ := h
    exact ⟨y, ys, h1, Rep.sameQ e d y h2, Reps.sameQ e ds ys h3⟩
end
theorem encD_same {β : Type} (g : β → V) (l : List (S × β)) (k : S) (v u : β) (h : getA l k = some u) (e : g v = g u) : encD g (putA l k v) = encD g l := by
  have := putA_same g l k v u h e
  unfold encD
  have e2 : ∀ m : List (S × β), m.map (fun p => (tx p.1, g p.2)) = (m.map fun p => (p.1, g p.2)).map fun q => (tx q.1, q.2) := fun m => by rw [List.map_map]; rfl
  rw [e2, e2, this]
theorem row_of {H0 H : Hp} {d : Addr} {ps : List (S × S)} {ra : List (S × Addr × List (S × Int))} (R : RA H0 H d ps ra) {e : S} {v : Addr × List (S × Int)} (h : getA ra e = some v) :
    H v.1 = some (.dK (rowV v.2)) ∧ (v.2.map (·.1)).Nodup ∧ v.2.length ≤ ps.length ∧ H0 v.1 = none ∧ v.1 ≠ d := by
  have hm := (getA_mem (keys_nd R) e v).mpr h
  have hm2 : (e, v.2) ∈ rowsOf ps := by rw [← R.rows]; exact List.mem_map.mpr ⟨(e, v), hm, rfl⟩
  exact ⟨R.row _ hm, (rows_ok ps).ndr e v.2 hm2, (rows_len ps).2 _ hm2, (R.new _ hm).1, (R.new _ hm).2⟩
theorem ok_rows {f : Addr} {fd : FuncData} (F : Fun K "counted_rows" "counted_rows" sRows f fd) (cEnds : Cal P w K mg base 2 "ends_and_letters" ["name", "order"] (spEnds K)) : FnOk P w K mg base CX0 3 f fd ["book", "order"] spRows := by
  refine F.ok scRows (fun vs H Q E h => ?_) (fun cdv A outer s H vs Q E hr h => ?_)
  · obtain ⟨a, bk, o, rfl, _⟩ := h; rfl
  · obtain ⟨a, bk, o, rfl, ha, hb1, hb2, ho, k⟩ := h
    have hu := hu_of hr
    have nd := scRows.nd
    refine ⟨_, pss_cons (ps_set (i := 2) nd rfl (Or.inl rfl) pe_dnewK)
      (pss_cons (ps_for PassesOwn.never rfl (pi_tup (pv 0)) (pg_name (i := 3) nd rfl (Or.inl rfl))
        (pss_one (ps_for PassesOwn.never rfl (pi_list (pe_cal cEnds hr rfl (pa_cons (pv 3) (pa_cons (pv 1) pa_nil))))
          (pg_tup rfl (pgs_cons (pg_name (i := 4) nd rfl (Or.inl rfl)) (pgs_cons (pg_name (i := 5) nd rfl (Or.inl rfl)) pgs_nil)))
          (pss_cons (ps_set (i := 6) nd rfl (Or.inl rfl) (pe_bm PySem.F.plainAttrs_dict PySem.F.slot_dict_setdefault PySem.F.type_dict_setdefault mt_setdefault (pv 2) (pa_cons (pv 4) (pa_cons pe_dnewK pa_nil))))
            (pss_one (ps_dput hu (pv 6) (pv 5) (pe_op op_add (pe_dget2 hu (pv 6) (pv 5) pe_int ⟨rfl, rfl, rfl, rfl⟩) pe_int) rfl))))))
      (pss_one (ps_ret (pv 2)))), ?_⟩
    intro d hd
    have s1 : Same H (upd H d (.dK [])) := Same.upd1 hd
    refine ⟨_, rfl, a, rfl, ⟨_, .of (s1 _ _ ha)⟩, ?_⟩
    refine for_known (known_tup K a (bkV bk)) (fun i σ H' => (∃ x y z u : Option V, σ = [some (.ref a), some (.int o), some (.ref d), x, y, z, u]) ∧ Same H H' ∧ ∃ ra, RA H H' d (pairsB o (bk.take i)) ra)
      ⟨⟨_, _, _, _, rfl⟩, s1, [], ⟨rfl, upd_same, by simp, by simp, by simp⟩⟩ (fun i σ H' _ h => .of (h.2.1 _ _ ha)) ?_ ?_
    · rintro i x σ H' Nx hN hx ⟨⟨x1, x2, x3, x4, rfl⟩, sm, ra, R⟩
      rw [bkV, List.getElem?_map] at hx
      cases e : bk[i]? with
      | none => rw [e] at hx; cases hx
      | some nm =>
      rw [e] at hx
      have hy2 : x = sv nm := (Option.some.inj hx).symm
      subst hy2
      have hnm := hb2 nm (List.mem_of_getElem? e)
      have hi : i < bk.length := (List.getElem?_eq_some_iff.mp e).1
      have etake : bk.take (i + 1) = bk.take i ++ [nm] := by
        rw [List.take_succ_eq_append_getElem hi]
        have := (List.getElem?_eq_some_iff.mp e).2
        rw [this]
      have epairs : pairsB o (bk.take (i + 1)) = pairsB o (bk.take i) ++ pairs1 o nm := by
        rw [etake, pairsB_append]; simp [pairsB]
      have hplen : ((pairsB o (bk.take (i + 1))).length : Int) ≤ 100 := by
        rw [pairsB_length]
        have go : ∀ l : List S, (∀ x ∈ l, x.length ≤ 8) → (l.map fun x => (x.length : Int) + 1).sum ≤ 9 * (l.length : Int) := by
          intro l
          induction l with
          | nil => intro _; simp
          | cons x r ih =>
            intro hl
            have h1 := hl x (List.mem_cons_self ..)
            have h2 := ih fun y hy => hl y (List.mem_cons_of_mem _ hy)
            rw [List.map_cons, List.sum_cons, List.length_cons]
            have : ((r.length + 1 : Nat) : Int) = (r.length : Int) + 1 := rfl
            omega
        have := go (bk.take (i + 1)) fun x hx => hb2 x (List.mem_of_mem_take hx)
        have h3 : (bk.take (i + 1)).length ≤ 8 := by rw [List.length_take]; omega
        omega
      refine ⟨_, rfl, _, rfl, nm, o, rfl, ho, by omega, fun l xs Hl sml hln hll rp => ?_⟩
      refine ⟨l, rfl, ⟨_, .of hll⟩, ?_⟩
      have R1 : RA H Hl d (pairsB o (bk.take i)) ra := ⟨R.rows, sml _ _ R.top, fun r hr => sml _ _ (R.row r hr), R.new, R.nda⟩
      have hld : H l = none := sm.free hln
      have hdl : l ≠ d := ne_of hll (sml _ _ R.top) (by intro z; cases z)
      refine for_known (known_list K l xs) (fun j σ H2 => (∃ y z u : Option V, σ = [some (.ref a), some (.int o), some (.ref d), some (sv nm), y, z, u]) ∧ Same H H2 ∧ H2 l = some (.lst xs) ∧ Reps K H2 ((pairs1 o nm).map elD) xs ∧ ∃ ra, RA H H2 d (pairsB o (bk.take i) ++ (pairs1 o nm).take j) ra ∧ ∀ r ∈ ra, r.2.1 ≠ l)
        ⟨⟨_, _, _, rfl⟩, sm.trans sml, hll, rp, ra, by simpa using R1, fun r hr => ne_of (R1.row r hr) hll (by intro z; cases z)⟩ (fun j σ H2 _ h => .of h.2.2.1) ?_ ?_
      · rintro j x σ H2 Nx2 hN2 hx2 ⟨⟨y, z, u, rfl⟩, sm2, hl2, rp2, ra2, R2, hal⟩
        obtain ⟨dd, hdd, rx⟩ := rp2.get hx2
        rw [List.getElem?_map] at hdd
        cases ep : (pairs1 o nm)[j]? with
        | none => rw [ep] at hdd; cases hdd
        | some p =>
        rw [ep] at hdd
        have hd2 : dd = elD p := (Option.some.inj hdd).symm
        subst hd2
        obtain ⟨at', xs', rfl, hsq, y1, ys1', rfl, ry1, y2, ys2', rfl, ry2, hnil⟩ := rx
        have ey1 : y1 = sv p.1 := ry1
        have ey2 : y2 = sv p.2 := ry2
        have en : ys2' = [] := hnil
        subst ey1 ey2 en
        have hj : j < (pairs1 o nm).length := (List.getElem?_eq_some_iff.mp ep).1
        have etk : pairsB o (bk.take i) ++ (pairs1 o nm).take (j + 1) = (pairsB o (bk.take i) ++ (pairs1 o nm).take j) ++ [p] := by
          rw [List.take_succ_eq_append_getElem hj, (List.getElem?_eq_some_iff.mp ep).2, List.append_assoc]
        generalize hps : pairsB o (bk.take i) ++ (pairs1 o nm).take j = ps at R2 etk
        have hpl : ps.length ≤ 100 := by
          have h1 : ps.length ≤ (pairsB o (bk.take (i + 1))).length := by
            rw [← hps, epairs, List.length_append, List.length_append, List.length_take]; omega
          omega
        have hral : ra2.length ≤ 100 := by
          have h1 := (rows_len ps).1
          rw [← R2.rows, List.length_map] at h1
          omega
        refine ⟨at', [sv p.1, sv p.2], rfl, hsq, rfl, _, _, rfl, _, _, rfl, rfl, ?_⟩
        refine ⟨_, rfl, .inr (.inr (.inl ⟨rfl, .inl ⟨_, R2.top⟩⟩)), _, rfl, fun e0 he0 => ?_⟩
        have he0H : H e0 = none := sm2.free he0
        have hde : d ≠ e0 := ne_of_none R2.top he0
        have s3 : Same H2 (upd H2 e0 (.dK [])) := Same.upd1 he0
        have fin : ∀ (ad : Addr) (row : List (S × Int)) (Hx : Hp), Hx ad = some (.dK (rowV row)) → (row.map (·.1)).Nodup → row.length ≤ 100 → (∀ H4, H4 = upd Hx ad (.dK (rowV (bump row p.2))) → Nx2 [some (.ref a), some (.int o), some (.ref d), some (sv nm), some (sv p.1), some (sv p.2), some (.ref ad)] H4) →
            sDPut (tVar 6) (tVar 5) (tOp (rI0 fun i j => V.int (i + j)) (tDGet2 (tVar 6) (tVar 5) (tC (.int 0))) (tC (.int 1))) { nx := Nx2, rt := Q, bk := fun _ _ => False, ct := fun _ _ => False } [some (.ref a), some (.int o), some (.ref d), some (sv nm), some (sv p.1), some (sv p.2), some (.ref ad)] Hx := by
          intro ad row Hx hrow hnd hrl hq
          refine ⟨_, rfl, ad, rfl, .inl ⟨_, .inl hrow⟩, _, rfl, _, DGet.k (k := Sum.inr (tx p.2)) hrow, (getA row p.2).getD 0, 1, ?_, rfl, ?_⟩
          · rw [val_enc]
            cases getA row p.2 <;> rfl
          · refine ⟨_, rfl, _, rfl, ad, _, rfl, DPut.k (k := Sum.inr (tx p.2)) hrow (by rw [encD_len, sizeLine_eq]; omega), hq _ ?_⟩
            rw [put_enc V.int row p.2 _ hnd]
            rfl
        have common : ∀ (ad : Addr) (row : List (S × Int)) (Hx H4 : Hp), Same H Hx → H ad = none → Hx l = some (.lst xs) → Reps K Hx ((pairs1 o nm).map elD) xs → H4 = upd Hx ad (.dK (rowV (bump row p.2))) → Hx ad = some (.dK (rowV row)) → RA H H4 d (ps ++ [p]) (putA ra2 p.1 (ad, bump row p.2)) →
            Nx2 [some (.ref a), some (.int o), some (.ref d), some (sv nm), some (sv p.1), some (sv p.2), some (.ref ad)] H4 := by
          intro ad row Hx H4 sx had hxl hxr e4 hrow RR
          have hadl : ad ≠ l := ne_of hrow hxl (by intro z; cases z)
          subst e4
          refine hN2 _ _ ⟨⟨_, _, _, rfl⟩, sx.upd_new had, by rw [upd_ne hadl.symm]; exact hxl, Reps.sameQ (SameQ.upd hrow) _ _ hxr, _, by rw [etk]; exact RR, fun r hr => ?_⟩
          rcases putA_mem hr with e | ⟨e, _⟩
          · rw [e]; exact hadl
          · exact hal r e
        have hx3 : upd H2 e0 (.dK []) d = some (.dK (encD (fun v : Addr × List (S × Int) => V.ref v.1) ra2)) := by rw [upd_ne hde]; exact R2.top
        have hl3 : upd H2 e0 (.dK []) l = some (.lst xs) := s3 _ _ hl2
        have hr3 : ∀ r ∈ ra2, upd H2 e0 (.dK []) r.2.1 = some (.dK (rowV r.2.2)) := fun r hr => s3 _ _ (R2.row r hr)
        have hre : ∀ r ∈ ra2, r.2.1 ≠ e0 := fun r hr => ne_of_none (R2.row r hr) he0
        refine ⟨d, _, Sum.inr (tx p.1), _, rfl, rfl, hx3, by rw [encD_len, sizeLine_eq]; omega, fun yv hyv => ?_, fun hnv => ?_⟩
        ·
          rw [val_enc] at hyv
          cases g : getA ra2 p.1 with
          | none => rw [g] at hyv; cases hyv
          | some v =>
          rw [g] at hyv
          have ev : yv = .ref v.1 := (Option.some.inj hyv).symm
          subst ev
          obtain ⟨r1, r2, r3, r4, r5⟩ := row_of R2 g
          have hrow3 : upd H2 e0 (.dK []) v.1 = some (.dK (rowV v.2)) := s3 _ _ r1
          refine fin v.1 v.2 _ hrow3 r2 (by omega) fun H4 e4 => common v.1 v.2 _ H4 (sm2.trans s3) r4 hl3 (Reps.same s3 _ _ rp2) e4 hrow3 ?_
          refine R2.step p v.2 (by rw [g]; rfl) (fun v' hv' => by rw [g] at hv'; rw [Option.some.inj hv']) (fun hn => by rw [g] at hn; cases hn) (by rw [e4, upd_same]) ?_ fun r hr hne => ?_
          · rw [e4, upd_ne r5.symm, hx3]
            have := encD_same (fun v : Addr × List (S × Int) => V.ref v.1) ra2 p.1 (v.1, bump v.2 p.2) v g rfl
            rw [this]
          · rw [e4, upd_ne hne]; exact hr3 r hr
        ·
          rw [val_enc] at hnv
          have g : getA ra2 p.1 = none := by
            cases g : getA ra2 p.1 with
            | none => rfl
            | some v => rw [g] at hnv; cases hnv
          have hp2 := put_enc (fun v : Addr × List (S × Int) => V.ref v.1) ra2 p.1 (e0, []) (keys_nd R2)
          have hHx : upd (upd H2 e0 (.dK [])) d (.dK (putK (encD (fun v : Addr × List (S × Int) => V.ref v.1) ra2) (Sum.inr (tx p.1)) (.ref e0))) e0 = some (.dK (rowV [])) := by
            rw [upd_ne hde.symm, upd_same]; rfl
          refine fin e0 [] _ hHx (by simp) (by simp) fun H4 e4 => common e0 [] _ H4 ((sm2.trans s3).upd_new hd) he0H (by rw [upd_ne hdl]; exact hl3) (Reps.sameQ (SameQ.upd hx3) _ _ (Reps.same s3 _ _ rp2)) e4 hHx ?_
          refine R2.step p [] (by rw [g]; rfl) (fun v' hv' => by rw [g] at hv'; cases hv') (fun _ => ⟨he0H, hde.symm, fun hm => ?_⟩) (by rw [e4, upd_same]) ?_ fun r hr hne => ?_
          · obtain ⟨r, hr, e⟩ := List.mem_map.mp hm
            exact hre r hr e
          · rw [e4, upd_ne hde, upd_same, hp2]
            congr 2
            have hk : p.1 ∉ ra2.map (·.1) := getA_none.mp g
            rw [putA_new _ _ _ hk, putA_new _ _ _ hk]
            unfold encD encK
            rw [List.map_append, List.map_append, List.map_append, List.map_append]
            rfl
          · rw [e4, upd_ne hne, upd_ne (R2.new r hr).2]; exact hr3 r hr
      · rintro σ H2 ⟨⟨y, z, u, rfl⟩, sm2, hl2, rp2, ra2, R2, _⟩
        refine hN _ _ ⟨⟨_, _, _, _, rfl⟩, sm2, ra2, ?_⟩
        rw [epairs]
        have hxl : xs.length = (pairs1 o nm).length := by have := rp2.length; simpa using this.symm
        rw [hxl, List.take_length] at R2
        exact R2
    · rintro σ H' ⟨⟨x1, x2, x3, x4, rfl⟩, sm, ra, R⟩
      refine ⟨_, rfl, k d H' sm hd ⟨ra, ?_, R.top, R.row⟩⟩
      rw [R.rows]
      have : (bkV bk).length = bk.length := by simp [bkV]
      rw [this, List.take_length]
end
end Kn
end
section
set_option Elab.async false
set_option linter.all false
set_option maxRecDepth 100000
set_option maxHeartbeats 1000000
namespace Kn
open PySem L2
section
variable {P : Program} {w : World} {K : PySem.W.Frag} {mg : Str → Option Value} {base : Heap}
theorem gcd_step {a b : Int} (ha : 0 ≤ a) (hb : 0 < b) : Int.gcd b (a % b) = Int.gcd a b := by
  obtain ⟨x, rfl⟩ := Int.eq_ofNat_of_zero_le ha
  obtain ⟨y, rfl⟩ := Int.eq_ofNat_of_zero_le (Int.le_of_lt hb)
  have e : ((x : Int) % (y : Int)) = ((x % y : Nat) : Int) := rfl
  rw [e]
  show Nat.gcd y (x % y) = Nat.gcd x y
  rw [Nat.gcd_comm y (x % y), ← Nat.gcd_rec, Nat.gcd_comm]
def spGcd : Sp := fun vs H Q _ => ∃ u d : Int, vs = [.int u, .int d] ∧ 0 ≤ u ∧ 0 < d ∧ d < 1073741824 ∧ Q (.int (gcdI u d)) H
abbrev sGcd : Stmt := top 28
theorem scGcd : FnScope ["one", "other", "rest"] ["one", "other"] (defScope sGcd) := ⟨rfl, rfl, rfl, by decide +kernel, rfl, by decide +kernel, by decide +kernel⟩
theorem ok_gcd {f : Addr} {fd : FuncData} (F : Fun K "greatest_divisor" "greatest_divisor" sGcd f fd) : FnOk P w K mg base CX0 1 f fd ["one", "other"] spGcd := by
  refine F.ok scGcd (fun vs H Q E h => ?_) (fun cdv A outer s H vs Q E hr h => ?_)
  · obtain ⟨a, b, rfl, _⟩ := h; rfl
  · obtain ⟨u, d, rfl, hu0, hd0, hd1, k⟩ := h
    have nd := scGcd.nd
    refine ⟨_, pss_cons (ps_while PassesOwn.never (pt_cmpR op_ne (pv 1) pe_int (nomark _))
        (pss_cons (ps_set (i := 2) nd rfl (Or.inl rfl) (pe_op op_mod (pv 0) (pv 1))) (pss_cons (ps_set (i := 0) nd rfl (Or.inl rfl) (pv 1)) (pss_one (ps_set (i := 1) nd rfl (Or.inl rfl) (pv 2))))))
      (pss_one (ps_ret (pv 0))), ?_⟩
    refine ⟨fun m σ H' => H' = H ∧ ∃ (a b : Int) (r : Option V), σ = [some (.int a), some (.int b), r] ∧ m = b.toNat ∧ 0 ≤ a ∧ 0 ≤ b ∧ b < 1073741824 ∧ Int.gcd a b = Int.gcd u d, ⟨_, rfl, u, d, none, rfl, rfl, hu0, Int.le_of_lt hd0, hd1, rfl⟩, ?_⟩
    rintro m σ H' ⟨rfl, a, b, r, rfl, rfl, ha, hb, hb1, hg⟩
    refine ⟨_, rfl, rfl, _, rfl, ?_⟩
    by_cases hz : b = 0
    · subst hz
      refine iteNS rfl ⟨_, rfl, ?_⟩
      have e : a = gcdI u d := by
        unfold gcdI
        rw [← hg]
        obtain ⟨x, rfl⟩ := Int.eq_ofNat_of_zero_le ha
        simp
      show Q (.int a) H'
      rw [e]
      exact k
    · have hb0 : 0 < b := by omega
      have hne : ¬ (V.int b = V.int 0) := fun z => hz (V.int.inj z)
      have et : (!decide (V.int b = V.int 0)) = true := by rw [decide_eq_false hne]; rfl
      show if (!decide (V.int b = V.int 0)) = true then _ else _
      rw [if_pos et]
      refine ⟨fun σ' H'' => H'' = H' ∧ σ' = [some (.int b), some (.int (a % b)), some (.int (a % b))], ?_, ?_⟩
      · rintro σ' H'' ⟨rfl, rfl⟩
        have h1 := Int.emod_nonneg a hz
        have h2 := Int.emod_lt_of_pos a hb0
        exact ⟨(a % b).toNat, by omega, rfl, b, a % b, _, rfl, rfl, hb, h1, by omega, by rw [gcd_step ha hb0]; exact hg⟩
      · exact ⟨_, rfl, _, rfl, _, _, rfl, rfl, hb0, _, rfl, _, rfl, rfl, rfl⟩
abbrev frO (q : Int × Int) : HO := .tup [.int q.1, .int q.2]
def spLow : Sp := fun vs H Q _ => ∃ u d : Int, vs = [.int u, .int d] ∧ 0 ≤ u ∧ 0 < d ∧ d < 1073741824 ∧ ∀ p, H p = none → Q (.ref p) (upd H p (frO (low u d)))
abbrev sLow : Stmt := top 29
theorem scLow : FnScope ["up", "down", "divisor"] ["up", "down"] (defScope sLow) := ⟨rfl, rfl, rfl, by decide +kernel, rfl, by decide +kernel, by decide +kernel⟩
theorem ok_low {f : Addr} {fd : FuncData} (F : Fun K "lowest" "lowest" sLow f fd) (c1 : Cal P w K mg base 1 "greatest_divisor" ["one", "other"] spGcd) : FnOk P w K mg base CX0 2 f fd ["up", "down"] spLow := by
  refine F.ok scLow (fun vs H Q E h => ?_) (fun cdv A outer s H vs Q E hr h => ?_)
  · obtain ⟨a, b, rfl, _⟩ := h; rfl
  · obtain ⟨u, d, rfl, hu0, hd0, hd1, k⟩ := h
    have nd := scLow.nd
    refine ⟨_, pss_cons (ps_set (i := 2) nd rfl (Or.inl rfl) (pe_cal c1 hr rfl (pa_cons (pv 0) (pa_cons (pv 1) pa_nil))))
      (pss_one (ps_ret (pe_tup (pa_cons (pe_op op_fdiv (pv 0) (pv 2)) (pa_cons (pe_op op_fdiv (pv 1) (pv 2)) pa_nil))))), ?_⟩
    have g1 := gcdI_pos (u := u) hd0
    have g2 : gcdI u d ≤ d := Int.le_of_dvd hd0 (Int.gcd_dvd_right ..)
    refine ⟨_, rfl, _, rfl, u, d, rfl, hu0, hd0, hd1, ?_⟩
    exact ⟨_, rfl, _, rfl, _, _, rfl, rfl, ⟨g1, by omega⟩, _, rfl, _, rfl, _, _, rfl, rfl, ⟨g1, by omega⟩, by show 2 ≤ sizeLine; decide, k⟩
structure Sm (q : Int × Int) : Prop extends Fq q where
  u1 : q.1 < 1073741824
  d1 : q.2 < 1073741824
def FrA (K : PySem.W.Frag) (H : Hp) (v : V) (q : Int × Int) : Prop := ∃ a, v = .ref a ∧ SqT K H a [.int q.1, .int q.2]
theorem FrA.same {H H' : Hp} {v : V} {q : Int × Int} (h : FrA K H v q) (e : Same H H') : FrA K H' v q := by
  obtain ⟨a, h1, h2⟩ := h
  exact ⟨a, h1, e.seqT h2⟩
theorem FrA.new {H : Hp} {p : Addr} {q : Int × Int} : FrA K (upd H p (frO q)) (.ref p) q := ⟨p, rfl, .of upd_same⟩
theorem FrA.rep {H : Hp} {v : V} {q : Int × Int} (h : FrA K H v q) : Rep K H (.tuple [.int q.1, .int q.2]) v := by
  obtain ⟨a, h1, h2⟩ := h
  exact ⟨a, _, h1, h2, _, _, rfl, rfl, _, _, rfl, rfl, rfl⟩
theorem FrA.of_rep {H : Hp} {v : V} {q : Int × Int} (h : Rep K H (.tuple [.int q.1, .int q.2]) v) : FrA K H v q := by
  obtain ⟨a, xs, h1, h2, y, ys, rfl, h3, z, zs, rfl, h4, h5⟩ := h
  have e1 : y = .int q.1 := h3
  have e2 : z = .int q.2 := h4
  have e3 : zs = [] := h5
  subst e1 e2 e3
  exact ⟨a, h1, h2⟩
def spTimes (K : PySem.W.Frag) : Sp := fun vs H Q _ => ∃ (x y : V) (p q : Int × Int), vs = [x, y] ∧ FrA K H x p ∧ FrA K H y q ∧ Sm p ∧ Sm q ∧ p.2 * q.2 < 1073741824 ∧ ∀ a, H a = none → Q (.ref a) (upd H a (frO (tms p q)))
def spAdded (K : PySem.W.Frag) : Sp := fun vs H Q _ => ∃ (x y : V) (p q : Int × Int), vs = [x, y] ∧ FrA K H x p ∧ FrA K H y q ∧ Sm p ∧ Sm q ∧ p.2 * q.2 < 1073741824 ∧ ∀ a, H a = none → Q (.ref a) (upd H a (frO (adds p q)))
def spLess (K : PySem.W.Frag) : Sp := fun vs H Q _ => ∃ (x y : V) (p q : Int × Int), vs = [x, y] ∧ FrA K H x p ∧ FrA K H y q ∧ Sm p ∧ Sm q ∧ Q (.bl (lss p q)) H
abbrev sAdded : Stmt := top 30
abbrev sTimes : Stmt := top 31
abbrev sLess : Stmt := top 33
theorem scAdded : FnScope ["one", "other"] ["one", "other"] (defScope sAdded) := ⟨rfl, rfl, rfl, by decide +kernel, rfl, by decide +kernel, by decide +kernel⟩
theorem scTimes : FnScope ["one", "other"] ["one", "other"] (defScope sTimes) := ⟨rfl, rfl, rfl, by decide +kernel, rfl, by decide +kernel, by decide +kernel⟩
theorem scLess : FnScope ["one", "other"] ["one", "other"] (defScope sLess) := ⟨rfl, rfl, rfl, by decide +kernel, rfl, by decide +kernel, by decide +kernel⟩
theorem cm {p : Int} (a : 0 ≤ p) (b : p < 1073741824) (q : Int) : CMul p q := .inl ⟨by omega, by omega⟩
theorem ok_times {f : Addr} {fd : FuncData} (F : Fun K "times" "times" sTimes f fd) (c1 : Cal P w K mg base 2 "lowest" ["up", "down"] spLow) : FnOk P w K mg base CX0 3 f fd ["one", "other"] (spTimes K) := by
  refine F.ok scTimes (fun vs H Q E h => ?_) (fun cdv A outer s H vs Q E hr h => ?_)
  · obtain ⟨x, y, p, q, rfl, _⟩ := h; rfl
  · obtain ⟨x, y, p, q, rfl, ⟨a, rfl, ha⟩, ⟨b, rfl, hb⟩, sp, sq, hpq, k⟩ := h
    refine ⟨_, pss_one (ps_ret (pe_cal c1 hr rfl (pa_cons (pe_op op_mul (pe_ix ix_tup (pv 0) pe_int (fun _ _ => rfl)) (pe_ix ix_tup (pv 1) pe_int (fun _ _ => rfl)))
      (pa_cons (pe_op op_mul (pe_ix ix_tup (pv 0) pe_int (fun _ _ => rfl)) (pe_ix ix_tup (pv 1) pe_int (fun _ _ => rfl))) pa_nil)))), ?_⟩
    have p0 := sp.up; have q0 := sq.up; have p1 := sp.dn; have q1 := sq.dn
    refine ⟨_, rfl, a, _, 0, _, rfl, rfl, ha, rfl, _, rfl, b, _, 0, _, rfl, rfl, hb, rfl, _, _, rfl, rfl, cm p0 sp.u1 _, ?_⟩
    refine ⟨_, rfl, a, _, 1, _, rfl, rfl, ha, rfl, _, rfl, b, _, 1, _, rfl, rfl, hb, rfl, _, _, rfl, rfl, cm (Int.le_of_lt p1) sp.d1 _, ?_⟩
    exact ⟨_, _, rfl, Int.mul_nonneg p0 q0, Int.mul_pos p1 q1, hpq, k⟩
theorem ok_less {f : Addr} {fd : FuncData} (F : Fun K "is_less" "is_less" sLess f fd) : FnOk P w K mg base CX0 1 f fd ["one", "other"] (spLess K) := by
  refine F.ok scLess (fun vs H Q E h => ?_) (fun cdv A outer s H vs Q E hr h => ?_)
  · obtain ⟨x, y, p, q, rfl, _⟩ := h; rfl
  · obtain ⟨x, y, p, q, rfl, ⟨a, rfl, ha⟩, ⟨b, rfl, hb⟩, sp, sq, k⟩ := h
    refine ⟨_, pss_one (ps_ret (pe_cmpR op_lt (pe_op op_mul (pe_ix ix_tup (pv 0) pe_int (fun _ _ => rfl)) (pe_ix ix_tup (pv 1) pe_int (fun _ _ => rfl))) (pe_op op_mul (pe_ix ix_tup (pv 1) pe_int (fun _ _ => rfl)) (pe_ix ix_tup (pv 0) pe_int (fun _ _ => rfl))) (nomark _))), ?_⟩
    have p0 := sp.up; have q0 := sq.up
    refine ⟨_, rfl, a, _, 0, _, rfl, rfl, ha, rfl, _, rfl, b, _, 1, _, rfl, rfl, hb, rfl, _, _, rfl, rfl, cm p0 sp.u1 _, ?_⟩
    exact ⟨_, rfl, b, _, 0, _, rfl, rfl, hb, rfl, _, rfl, a, _, 1, _, rfl, rfl, ha, rfl, _, _, rfl, rfl, cm q0 sq.u1 _, _, _, rfl, rfl, k⟩
end
end Kn
end
section
set_option Elab.async false
set_option linter.all false
set_option maxRecDepth 100000
set_option maxHeartbeats 1000000
namespace Kn
open PySem L2
theorem row_total {ps : List (S × S)} {e : S} {xs : List (S × Int)} (nd : (xs.map (·.1)).Nodup) (mem : ∀ l n, (l, n) ∈ xs ↔ n = (ps.count (e, l) : Int) ∧ 0 < n) : (xs.map (·.2)).sum = (tot ps e : Int) := by
  have h := sum_counts (ps.filter fun p => decide (p.1 = e)) (xs.map fun p => (e, p.1)) ?_ ?_
  · unfold tot
    rw [← h, List.map_map]
    congr 1
    apply List.map_congr_left
    rintro ⟨l, n⟩ hm
    have := ((mem l n).mp hm).1
    show n = (List.count (e, l) (ps.filter fun p => decide (p.1 = e)) : Int)
    rw [List.count_filter (by simp)]
    exact this
  · have := nd
    rw [List.Nodup, List.pairwise_map] at this ⊢
    exact this.imp fun {p q} hpq z => hpq (congrArg Prod.snd z)
  · rintro ⟨e', l⟩ hm
    obtain ⟨h1, h2⟩ := List.mem_filter.mp hm
    have h2' : e' = e := by simpa using h2
    subst h2'
    exact List.mem_map.mpr ⟨(l, (ps.count (e', l) : Int)), (mem l _).mpr ⟨rfl, by
      have := List.count_pos_iff.mpr h1
      omega⟩, rfl⟩
def rowOf (ps : List (S × S)) (e : S) : List (S × Int) := (getA (rowsOf ps) e).getD []
theorem rowOf_nd (ps : List (S × S)) (e : S) : ((rowOf ps e).map (·.1)).Nodup := by
  unfold rowOf
  cases g : getA (rowsOf ps) e with
  | none => simp
  | some row => exact (rows_ok ps).ndr e row ((getA_mem (rows_ok ps).nd e row).mpr g)
theorem rowOf_get (ps : List (S × S)) (e l : S) : getA (rowOf ps e) l = if 0 < ps.count (e, l) then some (ps.count (e, l) : Int) else none := (rows_ok ps).val e l
theorem rowOf_mem (ps : List (S × S)) (e l : S) (n : Int) : (l, n) ∈ rowOf ps e ↔ n = (ps.count (e, l) : Int) ∧ 0 < n := by
  rw [getA_mem (rowOf_nd ps e), rowOf_get]
  by_cases c : 0 < ps.count (e, l)
  · rw [if_pos c]
    constructor
    · intro z
      have := Option.some.inj z
      omega
    · rintro ⟨z, _⟩; rw [z]
  · rw [if_neg c]
    constructor
    · intro z; cases z
    · rintro ⟨z1, z2⟩; omega
theorem rowOf_total (ps : List (S × S)) (e : S) : ((rowOf ps e).map (·.2)).sum = (tot ps e : Int) := row_total (rowOf_nd ps e) (rowOf_mem ps e)
theorem tot_le (ps : List (S × S)) (e : S) : tot ps e ≤ ps.length := List.length_filter_le ..
structure Cst2 (K : PySem.W.Frag) (mg : Str → Option Value) : Prop where
  nought : ∃ a, mg "NOUGHT" = some (.ref a) ∧ ∀ H, SqT K H a [.int 0, .int 1]
  whole : ∃ a, mg "WHOLE" = some (.ref a) ∧ ∀ H, SqT K H a [.int 1, .int 1]
section
variable {P : Program} {w : World} {K : PySem.W.Frag} {mg : Str → Option Value} {base : Heap}
def spPart (K : PySem.W.Frag) : Sp := fun vs H Q _ => ∃ (d : Addr) (ps : List (S × S)) (e l : S), vs = [.ref d, sv l] ∧ H d = some (.dK (rowV (rowOf ps e))) ∧ ps.length < 1000 ∧ ∀ v H', Same H H' → FrA K H' v (part ps e l) → Q v H'
abbrev sPart : Stmt := top 34
theorem scPart : FnScope ["row", "letter"] ["row", "letter"] (defScope sPart) := ⟨rfl, rfl, rfl, by decide +kernel, rfl, by decide +kernel, by decide +kernel⟩
theorem ok_part {f : Addr} {fd : FuncData} (F : Fun K "part_in" "part_in" sPart f fd) (B : Blt mg) (C : Cst2 K mg) (c1 : Cal P w K mg base 2 "lowest" ["up", "down"] spLow) : FnOk P w K mg base CX0 3 f fd ["row", "letter"] (spPart K) := by
  obtain ⟨aN, hN, tN⟩ := C.nought
  refine F.ok scPart (fun vs H Q E h => ?_) (fun cdv A outer s H vs Q E hr h => ?_)
  · obtain ⟨d, ps, e, l, rfl, _⟩ := h; rfl
  · obtain ⟨d, ps, e, l, rfl, hd, hl, k⟩ := h
    have hu := hu_of hr
    refine ⟨_, pss_cons (ps_if (pt_cmp (pc_dnotin hu (pv 1) (pv 0))) (pss_one (ps_ret (pe_glob (v := .ref aN) (by rfl) hN rfl))) pss_nil)
      (pss_one (ps_ret (pe_cal c1 hr rfl (pa_cons (pe_dget hu (pv 0) (pv 1) (fun _ _ => rfl)) (pa_cons (pe_callB (call_sumVals rfl) (by rfl) B.sum PyProof.Rows.boot_sum (pa_cons (pe_bm0 PySem.F.plainAttrs_dict PySem.F.slot_dict_values PySem.F.type_dict_values mt_values (pv 0)) pa_nil)) pa_nil))))), ?_⟩
    refine ⟨_, rfl, _, rfl, d, _, rfl, DGet.k (k := Sum.inr (tx l)) hd, _, rfl, ?_⟩
    rw [val_enc, rowOf_get]
    by_cases c : 0 < ps.count (e, l)
    · rw [if_pos c]
      refine iteF ?_
      refine ⟨_, rfl, _, rfl, d, .int (ps.count (e, l) : Int), rfl, ?_, ?_⟩
      · have := DGet.k (k := Sum.inr (tx l)) hd
        rw [val_enc, rowOf_get, if_pos c] at this
        exact this
      refine ⟨_, rfl, .inr (.inr (.inl ⟨rfl, .inl ⟨_, hd⟩⟩)), d, _, rfl, rfl, hd, fun p hp => ?_⟩
      have s1 : Same H (upd H p (VLS p d)) := Same.upd1 hp
      refine ⟨p, d, (rowOf ps e).map (fun q => ((Sum.inr (tx q.1) : Key), q.2)), rfl, upd_same, ?_, ?_⟩
      · rw [s1 _ _ hd]
        unfold rowV encD encK
        rw [List.map_map, List.map_map]; rfl
      · have e1 : (((rowOf ps e).map fun q => ((Sum.inr (tx q.1) : Key), q.2)).map (·.2)).sum = (tot ps e : Int) := by
          rw [List.map_map]; exact rowOf_total ps e
        rw [e1]
        have h1 := count_le_tot ps e l
        have h2 := tot_le ps e
        refine ⟨_, _, rfl, by omega, by omega, by omega, fun p2 hp2 => k _ _ (s1.trans (Same.upd1 hp2)) ?_⟩
        have : part ps e l = low (ps.count (e, l) : Int) (tot ps e : Int) := by unfold part; rw [if_neg (by omega)]
        rw [this]
        exact FrA.new
    · rw [if_neg c]
      refine iteT ?_
      have : part ps e l = (0, 1) := by unfold part; rw [if_pos (by omega)]
      exact k _ _ (Same.refl H) (by rw [this]; exact ⟨aN, rfl, tN _⟩)
end
end Kn
end
section
set_option Elab.async false
set_option linter.all false
set_option maxRecDepth 100000
set_option maxHeartbeats 1000000
namespace Kn
open PySem L2
section
variable {P : Program} {w : World} {K : PySem.W.Frag} {mg : Str → Option Value} {base : Heap}
theorem pg_tupK {X : Cx} (K' : PySem.W.Frag) {pos : Pos} {es : List Expr} {k : Nat} {t : TGs} (n : Nat) (hK : X.K = K') (hc : X.calm = true) (h : PGs X es t)
    (hn : (assignEach es X.env).length = n) (hst : (assignEach es X.env).findIdx? (·.1) = none) : PG X (.Tuple es k pos) (gTup K' n t) := by
  subst hK
  exact pg_tup hc h hn hst
def frD (q : Int × Int) : PyData := .tuple [.int q.1, .int q.2]
def stD (ps : List (S × S)) (p : S × S) : PyData := .tuple [.str (tx p.1), .str (tx p.2), frD (part ps p.1 p.2)]
def spStepsR (K : PySem.W.Frag) : Sp := fun vs H Q _ => ∃ (d : Addr) (ps : List (S × S)) (o : Nat) (nm : S), vs = [.ref d, .int o, sv nm] ∧ RowsAt H d ps ∧ ps.length < 1000 ∧ 1 ≤ o ∧ nm.length ≤ 64 ∧
  ∀ a xs H', Same H H' → H a = none → H' a = some (.lst xs) → Reps K H' ((pairs1 o nm).map (stD ps)) xs → Q (.ref a) H'
abbrev sStepsR : Stmt := top 35
theorem scStepsR : FnScope ["rows", "order", "name"] ["rows", "order", "name"] (defScope sStepsR) := ⟨rfl, rfl, rfl, by decide +kernel, rfl, by decide +kernel, by decide +kernel⟩
theorem nd3 : (["rows", "end", "letter"] : List Str).Nodup := by decide +kernel
theorem RowsAt.get {H : Hp} {d : Addr} {ps : List (S × S)} (h : RowsAt H d ps) (e : S) : ∃ kvs : List (Key × V), H d = some (.dK kvs) ∧ ((valV kvs (Sum.inr (tx e)) = none ∧ rowOf ps e = []) ∨ ∃ a, valV kvs (Sum.inr (tx e)) = some (.ref a) ∧ H a = some (.dK (rowV (rowOf ps e)))) := by
  obtain ⟨ra, h1, h2, h3⟩ := h
  refine ⟨_, h2, ?_⟩
  rw [val_enc]
  have nd : (ra.map (·.1)).Nodup := by
    have h := (rows_ok ps).nd
    rw [← h1, List.map_map] at h
    exact h
  have e2 : getA (rowsOf ps) e = (getA ra e).map (·.2) := by
    rw [← h1]
    exact getA_map (fun v : Addr × List (S × Int) => v.2) ra e
  cases g : getA ra e with
  | none => exact .inl ⟨rfl, by unfold rowOf; rw [e2, g]; rfl⟩
  | some v =>
    refine .inr ⟨v.1, rfl, ?_⟩
    have := h3 _ ((getA_mem nd e v).mpr g)
    unfold rowOf
    rw [e2, g]
    exact this
theorem pairs1_len (o : Nat) (nm : S) : (pairs1 o nm).length = nm.length + 1 := by simp [pairs1]
theorem rp_el {H : Hp} {o : Nat} {nm : S} {xs : List V} {i : Nat} {x : V} (rp : Reps K H ((pairs1 o nm).map elD) xs) (hx : xs[i]? = some x) : ∃ (p : S × S) (a : Addr), (pairs1 o nm)[i]? = some p ∧ x = .ref a ∧ SqT K H a [sv p.1, sv p.2] := by
  obtain ⟨dd, hdd, rx⟩ := rp.get hx
  rw [List.getElem?_map] at hdd
  cases ep : (pairs1 o nm)[i]? with
  | none => rw [ep] at hdd; cases hdd
  | some p =>
  rw [ep] at hdd
  have hd2 : dd = elD p := (Option.some.inj hdd).symm
  subst hd2
  obtain ⟨at', xs', rfl, hsq, y1, ys1', rfl, ry1, y2, ys2', rfl, ry2, hnil⟩ := rx
  have ey1 : y1 = sv p.1 := ry1
  have ey2 : y2 = sv p.2 := ry2
  have en : ys2' = [] := hnil
  subst ey1 ey2 en
  exact ⟨p, at', rfl, rfl, hsq⟩
theorem ok_stepsR {f : Addr} {fd : FuncData} (F : Fun K "steps_by_rows" "steps_by_rows" sStepsR f fd) (cEnds : Cal P w K mg base 2 "ends_and_letters" ["name", "order"] (spEnds K)) (cPart : Cal P w K mg base 3 "part_in" ["row", "letter"] (spPart K)) :
    FnOk P w K mg base CX0 4 f fd ["rows", "order", "name"] (spStepsR K) := by
  refine F.ok scStepsR (fun vs H Q E h => ?_) (fun cdv A outer s H vs Q E hr h => ?_)
  · obtain ⟨d, ps, o, nm, rfl, _⟩ := h; rfl
  · obtain ⟨d, ps, o, nm, rfl, hR, hps, ho, hl, k⟩ := h
    have hu := hu_of hr
    have hr2 := hr.mono (j := 2) (by decide)
    refine ⟨_, pss_one (ps_ret (pe_comp (N := ["rows", "end", "letter"]) (caps := [0]) rfl (compScope_of (by kernel_rfl))
      (pi_list (pe_cal cEnds hr2 rfl (pa_cons (pv 2) (pa_cons (pv 1) pa_nil))))
      (fun cl C s H ex => pg_tupK K 2 rfl rfl (pgs_cons (pg_name (i := 1) nd3 rfl (Or.inl rfl)) (pgs_cons (pg_name (i := 2) nd3 rfl (Or.inl rfl)) pgs_nil)) rfl rfl)
      (fun cl C s H ex => pf_nil)
      (fun cl C s H ex => pe_tup (pa_cons (pv 1) (pa_cons (pv 2) (pa_cons (pe_cal cPart hr rfl (pa_cons (pe_dget2 hu (pv 0) (pv 1) pe_dnewK ⟨rfl, rfl, rfl, rfl⟩) (pa_cons (pv 2) pa_nil))) pa_nil)))))), ?_⟩
    refine ⟨_, rfl, _, rfl, nm, o, rfl, ho, hl, fun l xs Hl sml hln hll rp => ?_⟩
    refine ⟨l, rfl, ⟨_, .of hll⟩, ?_⟩
    have hxl : xs.length = nm.length + 1 := by have := rp.length; rw [← this, List.length_map, pairs1_len]
    refine comp_known0 (known_list K l xs) [some (.ref d)] 2 (by omega) (fun i acc H' => Same Hl H' ∧ acc.length = i ∧ Reps K H' (((pairs1 o nm).take i).map (stD ps)) acc)
      ⟨Same.refl _, rfl, rfl⟩ (fun i acc H' _ h => ⟨.of (h.1 _ _ hll), Nat.le_of_eq h.2.1⟩) ?_ ?_
    · rintro i x acc H' ys Nx hN hx hy ⟨sm, hal, rp'⟩
      obtain ⟨y, z, rfl⟩ := ys2 hy
      obtain ⟨p, at', ep, rfl, hsq⟩ := rp_el (Reps.same sm _ _ rp) hx
      have hj : i < (pairs1 o nm).length := (List.getElem?_eq_some_iff.mp ep).1
      refine ⟨at', [sv p.1, sv p.2], rfl, hsq, rfl, _, _, rfl, _, _, rfl, rfl, ?_⟩
      have R' : RowsAt H' d ps := (hR.same sml).same sm
      obtain ⟨kvs, hd, hv⟩ := R'.get p.1
      refine ⟨_, rfl, _, rfl, _, rfl, d, rfl, .inl ⟨_, .inl hd⟩, _, rfl, fun e0 he0 => ?_⟩
      have s3 : Same H' (upd H' e0 (.dK [])) := Same.upd1 he0
      have fin : ∀ (ra : Addr), upd H' e0 (.dK []) ra = some (.dK (rowV (rowOf ps p.1))) → ∀ v, v = V.ref ra → (∀ (ra2 : V) (H5 : Hp), Same (upd H' e0 (.dK [])) H5 → FrA K H5 ra2 (part ps p.1 p.2) → ∀ pp, H5 pp = none → Nx (acc ++ [.ref pp]) [some (.ref d), some (sv p.1), some (sv p.2)] (upd H5 pp (.tup [sv p.1, sv p.2, ra2]))) := by
        intro ra hra v hv' ra2 H5 s5 fr pp hpp
        refine hN _ _ [some (sv p.1), some (sv p.2)] rfl ⟨((sm.trans s3).trans s5).trans (Same.upd1 hpp), by rw [List.length_append, hal]; rfl, ?_⟩
        rw [List.take_succ_eq_append_getElem hj, (List.getElem?_eq_some_iff.mp ep).2, List.map_append]
        refine Reps.append (Reps.same ((s3.trans s5).trans (Same.upd1 hpp)) _ _ rp') (Reps.one ⟨pp, _, rfl, .of upd_same, ?_⟩)
        exact ⟨_, _, rfl, rfl, _, _, rfl, rfl, _, _, rfl, (fr.same (Same.upd1 hpp)).rep, rfl⟩
      have hd3 : upd H' e0 (.dK []) d = some (.dK kvs) := s3 _ _ hd
      refine ⟨_, DGet.k (k := Sum.inr (tx p.1)) hd3, _, rfl, ?_⟩
      rcases hv with ⟨hv1, hv2⟩ | ⟨ra, hv1, hv2⟩
      · rw [hv1]
        have hra : upd H' e0 (.dK []) e0 = some (.dK (rowV (rowOf ps p.1))) := by rw [upd_same, hv2]; rfl
        exact ⟨e0, ps, p.1, p.2, rfl, hra, hps, fun v H5 s5 fr => ⟨by show 3 ≤ sizeLine; decide, fun pp hpp => fin e0 hra _ rfl v H5 s5 fr pp hpp⟩⟩
      · rw [hv1]
        have hra : upd H' e0 (.dK []) ra = some (.dK (rowV (rowOf ps p.1))) := s3 _ _ hv2
        exact ⟨ra, ps, p.1, p.2, rfl, hra, hps, fun v H5 s5 fr => ⟨by show 3 ≤ sizeLine; decide, fun pp hpp => fin ra hra _ rfl v H5 s5 fr pp hpp⟩⟩
    · rintro acc H' ⟨sm, hal, rp'⟩ D hD
      have sml2 := sml.trans sm
      refine k D acc _ (sml2.upd_new (sml2.free hD)) (sml2.free hD) upd_same (Reps.same (Same.upd1 hD) _ _ ?_)
      have e1 : (pairs1 o nm).take xs.length = pairs1 o nm := by rw [hxl, ← pairs1_len o nm, List.take_length]
      rw [e1] at rp'
      exact rp'
end
end Kn
end
section
set_option Elab.async false
set_option linter.all false
set_option maxRecDepth 100000
set_option maxHeartbeats 1000000
namespace Kn
open PySem L2
theorem shareG_dn {ps : List (S × S)} (h1 : 1 ≤ ps.length) (qs : List (S × S)) : (shareG ps qs).2 ≤ ((ps.length ^ qs.length : Nat) : Int) := by
  have := foldG_dn h1 qs (1, 1) 0 fq11 (by simp)
  rw [Nat.zero_add] at this
  rw [Int.natCast_pow]
  exact this
theorem shareG_fq (ps qs : List (S × S)) : Fq (shareG ps qs) := foldG_fq ps qs _ fq11
theorem shareG_le1 (ps qs : List (S × S)) : (shareG ps qs).1 ≤ (shareG ps qs).2 := foldG_le1 ps qs _ fq11 (by decide)
theorem shareG_snoc (ps qs : List (S × S)) (p : S × S) : shareG ps (qs ++ [p]) = tms (shareG ps qs) (part ps p.1 p.2) := by
  unfold shareG; rw [List.foldl_append]; rfl
theorem Sm.of_le {q : Int × Int} (h : Fq q) (h1 : q.1 ≤ q.2) (h2 : q.2 < 1073741824) : Sm q := ⟨h, by omega, h2⟩
theorem share_sm {ps : List (S × S)} {o : Nat} {nm : S} (h1 : 1 ≤ ps.length) (h : ps.length ^ (nm.length + 1) < 1073741824) : Sm (shareOf ps o nm) := by
  refine .of_le (share_fq ..) (share_le1 ..) ?_
  have := shareG_dn h1 (pairs1 o nm)
  rw [pairs1_len] at this
  unfold shareOf
  omega
section
variable {P : Program} {w : World} {K : PySem.W.Frag} {mg : Str → Option Value} {base : Heap}
theorem rp_st {H : Hp} {ps : List (S × S)} {qs : List (S × S)} {xs : List V} {i : Nat} {x : V} (rp : Reps K H (qs.map (stD ps)) xs) (hx : xs[i]? = some x) : ∃ (p : S × S) (a : Addr) (v : V), qs[i]? = some p ∧ x = .ref a ∧ SqT K H a [sv p.1, sv p.2, v] ∧ FrA K H v (part ps p.1 p.2) := by
  obtain ⟨dd, hdd, rx⟩ := rp.get hx
  rw [List.getElem?_map] at hdd
  cases ep : qs[i]? with
  | none => rw [ep] at hdd; cases hdd
  | some p =>
  rw [ep] at hdd
  have hd2 : dd = stD ps p := (Option.some.inj hdd).symm
  subst hd2
  obtain ⟨at', xs', rfl, hsq, y1, ys1', rfl, ry1, y2, ys2', rfl, ry2, y3, ys3', rfl, ry3, hnil⟩ := rx
  have ey1 : y1 = sv p.1 := ry1
  have ey2 : y2 = sv p.2 := ry2
  have en : ys3' = [] := hnil
  subst ey1 ey2 en
  exact ⟨p, at', y3, rfl, rfl, hsq, FrA.of_rep ry3⟩
def spShareR (K : PySem.W.Frag) : Sp := fun vs H Q _ => ∃ (d : Addr) (ps : List (S × S)) (o : Nat) (nm : S), vs = [.ref d, .int o, sv nm] ∧ RowsAt H d ps ∧ 1 ≤ ps.length ∧ ps.length < 1000 ∧ ps.length ^ (nm.length + 1) < 1073741824 ∧ 1 ≤ o ∧ nm.length ≤ 64 ∧
  ∀ v H', Same H H' → FrA K H' v (shareOf ps o nm) → Q v H'
abbrev sShareR : Stmt := top 36
theorem scShareR : FnScope ["rows", "order", "name", "product", "step"] ["rows", "order", "name"] (defScope sShareR) := ⟨rfl, rfl, rfl, by decide +kernel, rfl, by decide +kernel, by decide +kernel⟩
theorem ok_shareR {f : Addr} {fd : FuncData} (F : Fun K "share_by_rows" "share_by_rows" sShareR f fd) (C : Cst2 K mg) (cSt : Cal P w K mg base 4 "steps_by_rows" ["rows", "order", "name"] (spStepsR K)) (cT : Cal P w K mg base 3 "times" ["one", "other"] (spTimes K)) :
    FnOk P w K mg base CX0 5 f fd ["rows", "order", "name"] (spShareR K) := by
  obtain ⟨aW, hW, tW⟩ := C.whole
  refine F.ok scShareR (fun vs H Q E h => ?_) (fun cdv A outer s H vs Q E hr h => ?_)
  · obtain ⟨d, ps, o, nm, rfl, _⟩ := h; rfl
  · obtain ⟨d, ps, o, nm, rfl, hR, hp1, hps, hpow, ho, hl, k⟩ := h
    have hu := hu_of hr
    have hr3 := hr.mono (j := 3) (by decide)
    have nd := scShareR.nd
    refine ⟨_, pss_cons (ps_set (i := 3) nd rfl (Or.inl rfl) (pe_glob (v := .ref aW) (by rfl) hW rfl))
      (pss_cons (ps_for PassesOwn.never rfl (pi_list (pe_cal cSt hr rfl (pa_cons (pv 0) (pa_cons (pv 1) (pa_cons (pv 2) pa_nil))))) (pg_name (i := 4) nd rfl (Or.inl rfl))
        (pss_one (ps_set (i := 3) nd rfl (Or.inl rfl) (pe_cal cT hr3 rfl (pa_cons (pv 3) (pa_cons (pe_ix ix_tup (pv 4) pe_int (fun _ _ => rfl)) pa_nil))))))
      (pss_one (ps_ret (pv 3)))), ?_⟩
    refine ⟨_, rfl, _, rfl, _, rfl, d, ps, o, nm, rfl, hR, hps, ho, hl, fun l xs Hl sml hln hll rp => ?_⟩
    refine ⟨l, rfl, ⟨_, .of hll⟩, ?_⟩
    have hxl : xs.length = nm.length + 1 := by have := rp.length; rw [← this, List.length_map, pairs1_len]
    refine for_known (known_list K l xs) (fun i σ H2 => ∃ (v : V) (y : Option V), σ = [some (.ref d), some (.int o), some (sv nm), some v, y] ∧ Same Hl H2 ∧ FrA K H2 v (shareG ps ((pairs1 o nm).take i)))
      ⟨_, _, rfl, Same.refl _, ⟨aW, rfl, tW _⟩⟩ (fun i σ H' _ h => by obtain ⟨_, _, _, h, _⟩ := h; exact .of (h _ _ hll)) ?_ ?_
    · rintro i x σ H2 Nx hN hx ⟨v, y, rfl, sm, fr⟩
      obtain ⟨p, at', u, ep, rfl, hsq, fu⟩ := rp_st (Reps.same sm _ _ rp) hx
      have hj : i < (pairs1 o nm).length := (List.getElem?_eq_some_iff.mp ep).1
      have hj2 : i < nm.length + 1 := by rw [pairs1_len] at hj; exact hj
      have hti : ((pairs1 o nm).take i).length = i := by rw [List.length_take]; omega
      have hdn := shareG_dn hp1 ((pairs1 o nm).take i)
      rw [hti] at hdn
      have hpi : ps.length ^ i ≤ ps.length ^ (nm.length + 1) := Nat.pow_le_pow_right hp1 (by omega)
      have hpi1 : ps.length ^ (i + 1) ≤ ps.length ^ (nm.length + 1) := Nat.pow_le_pow_right hp1 (by omega)
      have hpd := part_dn p.1 p.2 hp1
      have s1 : Sm (shareG ps ((pairs1 o nm).take i)) := .of_le (shareG_fq ..) (shareG_le1 ..) (by omega)
      have s2 : Sm (part ps p.1 p.2) := .of_le (part_fq ..) (part_le1 ..) (by omega)
      refine ⟨_, rfl, _, rfl, at', _, 2, u, rfl, rfl, hsq, rfl, v, u, _, _, rfl, fr, fu, s1, s2, ?_, fun b hb => hN _ _ ⟨_, _, rfl, sm.trans (Same.upd1 hb), ?_⟩⟩
      · have hm : (shareG ps ((pairs1 o nm).take i)).2 * (part ps p.1 p.2).2 ≤ ((ps.length ^ i : Nat) : Int) * (ps.length : Int) := Int.mul_le_mul hdn hpd (Int.le_of_lt s2.dn) (Int.natCast_nonneg _)
        have e : ((ps.length ^ i : Nat) : Int) * (ps.length : Int) = ((ps.length ^ (i + 1) : Nat) : Int) := by rw [Nat.pow_succ]; rfl
        rw [e] at hm
        omega
      · rw [List.take_succ_eq_append_getElem hj, (List.getElem?_eq_some_iff.mp ep).2, shareG_snoc]
        exact FrA.new
    · rintro σ H2 ⟨v, y, rfl, sm, fr⟩
      refine ⟨_, rfl, k v H2 (sml.trans sm) ?_⟩
      have e1 : (pairs1 o nm).take xs.length = pairs1 o nm := by rw [hxl, ← pairs1_len o nm, List.take_length]
      rw [e1] at fr
      exact fr
structure Bk (bk : List S) (o : Nat) : Prop extends isBk bk where
  o1 : 1 ≤ o
  o3 : o ≤ 3
structure Fit (bk : List S) (o : Nat) (x : S) : Prop extends Bk bk o where
  nmn : isNm x
  pw : (pairsB o bk).length ^ (x.length + 1) < 1073741824
theorem Bk.l8 {bk : List S} {o : Nat} (h : Bk bk o) : ∀ x ∈ bk, x.length ≤ 8 := fun x hx => (h.nm x hx).2.1
theorem pairs_len {bk : List S} {o : Nat} (h : Bk bk o) : 1 ≤ (pairsB o bk).length ∧ (pairsB o bk).length < 1000 := by
  have e := pairsB_length o bk
  have go : ∀ l : List S, (∀ x ∈ l, x.length ≤ 8) → (l.length : Int) ≤ (l.map fun x => (x.length : Int) + 1).sum ∧ (l.map fun x => (x.length : Int) + 1).sum ≤ 9 * (l.length : Int) := by
    intro l
    induction l with
    | nil => intro _; simp
    | cons x r ih =>
      intro hl
      have h1 := hl x (List.mem_cons_self ..)
      have h2 := ih fun y hy => hl y (List.mem_cons_of_mem _ hy)
      rw [List.map_cons, List.sum_cons, List.length_cons]
      have : ((r.length + 1 : Nat) : Int) = (r.length : Int) + 1 := rfl
      omega
  have := go bk h.l8
  have h1 := h.lo
  have h2 := h.hi
  omega
def spSteps (K : PySem.W.Frag) : Sp := fun vs H Q _ => ∃ (a : Addr) (bk : List S) (o : Nat) (nm : S), vs = [.ref a, .int o, sv nm] ∧ H a = some (.tup (bkV bk)) ∧ Bk bk o ∧ isNm nm ∧
  ∀ l xs H', Same H H' → H l = none → H' l = some (.lst xs) → Reps K H' ((pairs1 o nm).map (stD (pairsB o bk))) xs → Q (.ref l) H'
abbrev sSteps : Stmt := top 37
abbrev sShare : Stmt := top 38
abbrev sMakes : Stmt := top 39
theorem scSteps : FnScope ["book", "order", "name"] ["book", "order", "name"] (defScope sSteps) := ⟨rfl, rfl, rfl, by decide +kernel, rfl, by decide +kernel, by decide +kernel⟩
theorem scShare : FnScope ["book", "order", "name"] ["book", "order", "name"] (defScope sShare) := ⟨rfl, rfl, rfl, by decide +kernel, rfl, by decide +kernel, by decide +kernel⟩
theorem scMakes : FnScope ["book", "order", "name"] ["book", "order", "name"] (defScope sMakes) := ⟨rfl, rfl, rfl, by decide +kernel, rfl, by decide +kernel, by decide +kernel⟩
structure Needs (P : Program) (w : World) (K : PySem.W.Frag) (mg : Str → Option Value) (base : Heap) : Prop where
  bk : Cal P w K mg base 3 "need_book" ["thing"] spNeedBook
  od : Cal P w K mg base 3 "need_order" ["thing"] spNeedOrder
  nm : Cal P w K mg base 2 "need_name" ["thing"] spNeedName
  rows : Cal P w K mg base 3 "counted_rows" ["book", "order"] spRows
def spShare (K : PySem.W.Frag) : Sp := fun vs H Q _ => ∃ (a : Addr) (bk : List S) (o : Nat) (nm : S), vs = [.ref a, .int o, sv nm] ∧ H a = some (.tup (bkV bk)) ∧ Fit bk o nm ∧
  ∀ v H', Same H H' → FrA K H' v (shareOf (pairsB o bk) o nm) → Q v H'
def spMakes : Sp := fun vs H Q _ => ∃ (a : Addr) (bk : List S) (o : Nat) (nm : S), vs = [.ref a, .int o, sv nm] ∧ H a = some (.tup (bkV bk)) ∧ Fit bk o nm ∧
  ∀ H', Same H H' → Q (.bl (decide (0 < (shareOf (pairsB o bk) o nm).1))) H'
end
end Kn
end
section
set_option Elab.async false
set_option linter.all false
set_option maxRecDepth 100000
set_option maxHeartbeats 1000000
namespace Kn
open PySem L2
section
variable {P : Program} {w : World} {K : PySem.W.Frag} {mg : Str → Option Value} {base : Heap}
def spLik : Sp := fun vs H Q _ => ∃ (a : Addr) (bk : List S) (o : Nat) (x y : S), vs = [.ref a, .int o, sv x, sv y] ∧ H a = some (.tup (bkV bk)) ∧ Fit bk o x ∧ Fit bk o y ∧
  ∀ H', Same H H' → Q (sv (lkl (shareOf (pairsB o bk) o x) (shareOf (pairsB o bk) o y) x y)) H'
abbrev sLik : Stmt := top 40
theorem scLik : FnScope ["book", "order", "one", "other", "rows", "share_of_one", "share_of_other"] ["book", "order", "one", "other"] (defScope sLik) := ⟨rfl, rfl, rfl, by decide +kernel, rfl, by decide +kernel, by decide +kernel⟩
end
end Kn
end
section
set_option Elab.async false
set_option linter.all false
set_option maxRecDepth 100000
set_option maxHeartbeats 1000000
namespace Kn
open PySem L2
theorem tx_eta (x : Str) : tx x.cps.toList = x := by
  apply MyS.Str_ext
  simp [tx]
def intOf : V → Int
  | .int i => i
  | _ => 0
def cellD (q : S × Int) : PyData := .tuple [.str (tx q.1), .int q.2]
def tbD (r : S × List (S × Int)) : PyData := .tuple [.str (tx r.1), .tuple (r.2.map cellD)]
section
variable {P : Program} {w : World} {K : PySem.W.Frag} {mg : Str → Option Value} {base : Heap}
end
theorem ite_nn {c A B : Prop} [Decidable c] (hc : ¬ c) (h : A) : if (!decide c) = true then A else B := by
  rw [decide_eq_false hc]; exact h
end Kn
end
section
set_option Elab.async false
set_option linter.all false
set_option maxRecDepth 100000
set_option maxHeartbeats 1000000
namespace Kn
open PySem L2
section
variable {P : Program} {w : World} {K : PySem.W.Frag} {mg : Str → Option Value} {base : Heap}
theorem reps_ints {H : Hp} : ∀ ns : List Int, Reps K H (ns.map PyData.int) (ns.map V.int)
  | [] => rfl
  | n :: ns => ⟨_, _, rfl, rfl, reps_ints ns⟩
theorem lay_ints : ∀ ns : List Int, PyData.canLayAll0 (ns.map PyData.int) = true
  | [] => rfl
  | n :: ns => by rw [List.map_cons]; simp only [PyData.canLayAll0, PyData.canLay0, lay_ints ns, Bool.and_self]
def spCell (K : PySem.W.Frag) : Sp := fun vs H Q _ => ∃ (a : Addr) (ns : List Int) (k : Nat), vs = [.ref a, .int k] ∧ SqL K H a (ns.map V.int) ∧ ns.length ≤ 63 ∧ ∀ (i : Int) H', Same H H' → Q (.int i) H'
abbrev sCell : Stmt := top 42
theorem scCell : FnScope ["_law_script", "_law_k"] ["_law_script", "_law_k"] (defScope sCell) := ⟨rfl, rfl, rfl, by decide +kernel, rfl, by decide +kernel, by decide +kernel⟩
theorem shaped_ints (ns : List Int) : SeqAt.shaped (.list (ns.map PyData.int)) = true := by
  unfold SeqAt.shaped
  have h1 : (PyData.list (ns.map PyData.int)).canLay0 = true := by simp only [PyData.canLay0]; exact lay_ints ns
  have h2 : (PyData.list (ns.map PyData.int)).depth ≤ 64 := by
    have go : ∀ ns : List Int, PyData.depthAll (ns.map PyData.int) ≤ 1 := by
      intro ns
      induction ns with
      | nil => decide
      | cons n ns ih => rw [List.map_cons]; simp only [PyData.depthAll, PyData.depth]; omega
    have := go ns
    simp only [PyData.depth]; omega
  rw [h1, decide_eq_true h2]; rfl
theorem ok_cell {f : Addr} {fd : FuncData} (F : Fun K "_law_cell" "_law_cell" sCell f fd) (B : Blt mg) : FnOk P w K mg base CX0 1 f fd ["_law_script", "_law_k"] (spCell K) := by
  refine F.ok scCell (fun vs H Q E h => ?_) (fun cdv A outer s H vs Q E hr h => ?_)
  · obtain ⟨a, ns, k, rfl, _⟩ := h; rfl
  · obtain ⟨a, ns, n, rfl, ha, hl, k⟩ := h
    have hu := hr.units
    refine ⟨_, pss_cons (ps_if (pt_cmpR (op_eqD hu) (pv 0) (pe_lst pa_nil) (nomark _)) (pss_one (ps_ret (pe_op op_mul pe_int (pv 1)))) pss_nil)
      (pss_one (ps_ret (pe_op op_add (pe_ix ix_list (pv 0) (pe_op op_mod (pv 1) (pe_callB call_len_seq (by rfl) B.len PySem.boot_len (pa_cons (pv 0) pa_nil))) (fun _ _ => rfl))
        (pe_op op_mul pe_int (pe_op op_fdiv (pv 1) (pe_callB call_len_seq (by rfl) B.len PySem.boot_len (pa_cons (pv 0) pa_nil))))))), ?_⟩
    refine ⟨_, rfl, by show 0 ≤ sizeLine; decide, fun p hp => ?_⟩
    have s1 : Same H (upd H p (.lst [])) := Same.upd1 hp
    refine ⟨.list (ns.map PyData.int), .list [], ⟨a, _, rfl, s1.seq ha, reps_ints ns⟩, ⟨p, [], rfl, .of upd_same, rfl⟩, shaped_ints ns, rfl, _, rfl, ?_⟩
    cases ns with
    | nil => exact iteT ⟨_, rfl, 7, n, rfl, rfl, .inl ⟨by decide, by decide⟩, k _ _ s1⟩
    | cons m ns =>
      refine iteF ?_
      have hlen : ((m :: ns).map V.int).length = ns.length + 1 := by simp
      have hll : ns.length + 1 ≤ 63 := by simpa using hl
      have hm : ((n : Int) % (((m :: ns).map V.int).length : Int)) = ((n % (ns.length + 1) : Nat) : Int) := by rw [hlen]; rfl
      have hlt : n % (ns.length + 1) < ((m :: ns).map V.int).length := by rw [hlen]; exact Nat.mod_lt _ (Nat.succ_pos _)
      refine ⟨_, rfl, _, rfl, _, rfl, a, _, rfl, .inl (s1.seq ha), _, _, rfl, rfl, by rw [hlen]; omega, ?_⟩
      refine ⟨a, _, _, .int ((m :: ns)[n % (ns.length + 1)]'(by simpa using hlt)), rfl, rfl, s1.seq ha, ?_, ?_⟩
      · rw [hm]
        refine atI_nat ?_
        rw [List.getElem?_map, List.getElem?_eq_getElem (by simpa using hlt)]; rfl
      · exact ⟨_, rfl, _, rfl, a, _, rfl, .inl (s1.seq ha), _, _, rfl, rfl, ⟨by rw [hlen]; omega, by rw [hlen]; omega⟩, _, _, rfl, rfl, .inl ⟨by decide, by decide⟩, _, _, rfl, rfl, k _ _ s1⟩
theorem lt0 {d : Int} (h : 0 < d) : 0 < d := h
theorem cmE {t d q : Int} (h : 0 < d) (h2 : d < 18446744073709551616) : CMul (t % d) q := by
  have h1 := Int.emod_nonneg t (show d ≠ 0 by omega)
  have h3 := Int.emod_lt_of_pos t h
  exact .inl ⟨by omega, by omega⟩
def spDrawn (K : PySem.W.Frag) : Sp := fun vs H Q _ => ∃ (a : Addr) (ns : List Int) (k m : Nat), vs = [.ref a, .int k, .int m] ∧ SqL K H a (ns.map V.int) ∧ ns.length ≤ 63 ∧ 1 ≤ m ∧ m < 1000 ∧ ∀ (i : Nat) H', i < m → Same H H' → Q (.int i) H'
abbrev sDrawn : Stmt := top 43
theorem scDrawn : FnScope ["_law_script", "_law_k", "_law_many", "_law_cell_here"] ["_law_script", "_law_k", "_law_many"] (defScope sDrawn) := ⟨rfl, rfl, rfl, by decide +kernel, rfl, by decide +kernel, by decide +kernel⟩
theorem ok_drawn {f : Addr} {fd : FuncData} (F : Fun K "_law_drawn" "_law_drawn" sDrawn f fd) (c1 : Cal P w K mg base 1 "_law_cell" ["_law_script", "_law_k"] (spCell K)) : FnOk P w K mg base CX0 2 f fd ["_law_script", "_law_k", "_law_many"] (spDrawn K) := by
  refine F.ok scDrawn (fun vs H Q E h => ?_) (fun cdv A outer s H vs Q E hr h => ?_)
  · obtain ⟨a, ns, k, m, rfl, _⟩ := h; rfl
  · obtain ⟨a, ns, n, m, rfl, ha, hl, hm1, hm2, k⟩ := h
    have nd := scDrawn.nd
    refine ⟨_, pss_cons (ps_set (i := 3) nd rfl (Or.inl rfl) (pe_op op_mod (pe_op op_add (pe_op op_mul (pe_op op_mod (pe_cal c1 hr rfl (pa_cons (pv 0) (pa_cons (pv 1) pa_nil))) pe_int) pe_int) (pe_op op_mul pe_int (pe_op op_add (pv 1) pe_int))) pe_int))
      (pss_cons (ps_set (i := 3) nd rfl (Or.inl rfl) (pe_op op_mod (pe_op op_add (pe_op op_mul (pv 3) (pv 3)) (pe_op op_fdiv (pv 3) pe_int)) pe_int))
      (pss_one (ps_ret (pe_op op_mod (pe_op op_fdiv (pe_op op_mod (pe_op op_add (pe_op op_mul (pv 3) (pv 3)) (pe_op op_fdiv (pv 3) pe_int)) pe_int) pe_int) (pv 2))))), ?_⟩
    refine ⟨_, rfl, _, rfl, a, ns, n, rfl, ha, hl, fun i H' s1 => ?_⟩
    have fin : ∀ z : Int, Q (.int (z % (m : Int))) H' := fun z => by
      have z1 : 0 ≤ z % (m : Int) := Int.emod_nonneg _ (by omega)
      have z2 : z % (m : Int) < m := Int.emod_lt_of_pos _ (by omega)
      have e : z % (m : Int) = ((z % (m : Int)).toNat : Int) := (Int.toNat_of_nonneg z1).symm
      rw [e]
      exact k _ _ (by omega) s1
    refine ⟨_, _, rfl, rfl, lt0 (by decide), _, _, rfl, rfl, .inr ⟨by decide, by decide⟩, ?_⟩
    refine ⟨_, rfl, _, _, rfl, rfl, _, _, rfl, rfl, .inl ⟨by decide, by decide⟩, _, _, rfl, rfl, _, _, rfl, rfl, lt0 (by decide), ?_⟩
    refine ⟨_, rfl, _, rfl, _, _, rfl, rfl, cmE (by decide) (by decide), _, rfl, _, _, rfl, rfl, ⟨by decide, by decide⟩, _, _, rfl, rfl, _, _, rfl, rfl, lt0 (by decide), ?_⟩
    refine ⟨_, rfl, _, rfl, _, _, rfl, rfl, cmE (by decide) (by decide), _, rfl, _, _, rfl, rfl, ⟨by decide, by decide⟩, _, _, rfl, rfl, _, _, rfl, rfl, lt0 (by decide), _, _, rfl, rfl, ⟨by decide, by decide⟩, _, rfl, _, _, rfl, rfl, ?_, fin _⟩
    show (0 : Int) < (m : Int)
    omega
end
end Kn
end
section
set_option Elab.async false
set_option linter.all false
set_option maxRecDepth 100000
set_option maxHeartbeats 1000000
namespace Kn
open PySem L2
section
variable {P : Program} {w : World} {K : PySem.W.Frag} {mg : Str → Option Value} {base : Heap}
def spName (K : PySem.W.Frag) : Sp := fun vs H Q _ => ∃ (a : Addr) (ns : List Int) (at' most : Nat), vs = [.ref a, .int at', .int most] ∧ SqL K H a (ns.map V.int) ∧ ns.length ≤ 63 ∧ 1 ≤ most ∧ most ≤ 8 ∧
  ∀ (x : S) H', Same H H' → isNm x → x.length ≤ most → Q (sv x) H'
abbrev sName : Stmt := top 44
theorem scName : FnScope ["_law_script", "_law_at", "_law_most", "_law_size", "_law_letters"] ["_law_script", "_law_at", "_law_most"] (defScope sName) := ⟨rfl, rfl, rfl, by decide +kernel, rfl, by decide +kernel, by decide +kernel⟩
theorem ndN : (["_law_letters", "_law_script", "_law_at", "_law_k"] : List Str).Nodup := by decide +kernel
abbrev cDr (P : Program) (w : World) (K : PySem.W.Frag) (mg : Str → Option Value) (base : Heap) : Prop := Cal P w K mg base 2 "_law_drawn" ["_law_script", "_law_k", "_law_many"] (spDrawn K)
theorem ok_name {f : Addr} {fd : FuncData} (F : Fun K "_law_name" "_law_name" sName f fd) (B : Blt mg) (c1 : cDr P w K mg base) : FnOk P w K mg base CX0 3 f fd ["_law_script", "_law_at", "_law_most"] (spName K) := by
  refine F.ok scName (fun vs H Q E h => ?_) (fun cdv A outer s H vs Q E hr h => ?_)
  · obtain ⟨a, ns, k, m, rfl, _⟩ := h; rfl
  · obtain ⟨a, ns, n, m, rfl, ha, hl, hm1, hm2, k⟩ := h
    have nd := scName.nd
    refine ⟨_, pss_cons (ps_set (i := 3) nd rfl (Or.inl rfl) (pe_op op_add pe_int (pe_cal c1 hr rfl (pa_cons (pv 0) (pa_cons (pv 1) (pa_cons (pv 2) pa_nil))))))
      (pss_cons (ps_set (i := 4) nd rfl (Or.inr rfl) (pe_ix ix_list (pe_lst (pa_cons pe_str (pa_cons pe_str (pa_cons pe_str pa_nil)))) (pe_cal c1 hr rfl (pa_cons (pv 0) (pa_cons (pe_op op_add (pv 1) pe_int) (pa_cons pe_int pa_nil)))) (fun _ _ => rfl)))
      (pss_one (ps_ret (pe_bm PySem.F.plainAttrs_str PySem.F.slot_str_join PySem.F.type_str_join mt_join pe_str (pa_cons
        (pe_comp (N := ["_law_letters", "_law_script", "_law_at", "_law_k"]) (caps := [4, 0, 1]) rfl (compScope_of (by kernel_rfl)) (pi_range1 rfl B.range (pa_cons (pv 3) pa_nil))
          (fun cl C s H ex => pg_name (i := 3) ndN rfl (Or.inl rfl)) (fun cl C s H ex => pf_nil)
          (fun cl C s H ex => pe_ix ix_str (pv 0) (pe_cal c1 hr rfl (pa_cons (pv 1) (pa_cons (pe_op op_add (pe_op op_add (pv 2) pe_int) (pv 3)) (pa_cons (pe_callB call_len_str (by rfl) B.len PySem.boot_len (pa_cons (pv 0) pa_nil)) pa_nil)))) (fun _ _ => rfl))) pa_nil))))), ?_⟩
    refine ⟨_, rfl, _, rfl, _, rfl, a, ns, n, m, rfl, ha, hl, hm1, by omega, fun sz H1 hsz s1 => ?_⟩
    refine ⟨_, _, rfl, rfl, ?_⟩
    refine ⟨by show 3 ≤ sizeLine; decide, fun p hp => ?_⟩
    have s2 : Same H1 (upd H1 p (.lst [.str "ab", .str "ab", .str "abz"])) := Same.upd1 hp
    refine ⟨_, rfl, _, rfl, _, _, rfl, rfl, a, ns, n + 9, 3, rfl, s2.seq (s1.seq ha), hl, by decide, by decide, fun li H3 hli s3 => ?_⟩
    have s123 := (s1.trans s2).trans s3
    obtain ⟨L, hL, e⟩ : ∃ L : S, (L = [97, 98] ∨ L = [97, 98, 122]) ∧ ([.str "ab", .str "ab", .str "abz"] : List V)[li]? = some (sv L) := by
      match li, hli with
      | 0, _ => exact ⟨[97, 98], .inl rfl, rfl⟩
      | 1, _ => exact ⟨[97, 98], .inl rfl, rfl⟩
      | 2, _ => exact ⟨[97, 98, 122], .inr rfl, rfl⟩
    refine ⟨p, _, _, sv L, rfl, rfl, .of (s3 _ _ upd_same), atI_nat e, ?_⟩
    refine ⟨rfl, _, rfl, _, rfl, by omega, by omega, ?_⟩
    have hLl : L.length = 2 ∨ L.length = 3 := by rcases hL with h | h <;> subst h <;> simp
    have hLc : ∀ c ∈ L, 97 ≤ c ∧ c ≤ 122 := by rcases hL with h | h <;> subst h <;> decide
    have hnn : (1 + (sz : Int)).toNat = sz + 1 := by omega
    refine comp_known0 (known_range 0 _) [some (sv L), some (.ref a), some (.int n)] 1 (by rw [List.length_map, List.length_range, hnn]; omega) (fun i acc H' => Same H3 H' ∧ ∃ cs : S, acc = cs.map (fun c => V.str (tx [c])) ∧ cs.length = i ∧ ∀ c ∈ cs, 97 ≤ c ∧ c ≤ 122)
      ⟨Same.refl _, [], rfl, rfl, by simp⟩ (fun i acc H' _ h => ⟨trivial, by obtain ⟨_, cs, rfl, h, _⟩ := h; rw [List.length_map]; omega⟩) ?_ ?_
    · rintro i x acc H' ys Nx hN hx hy ⟨sm, cs, rfl, hcl, hcs⟩
      obtain ⟨y, rfl⟩ := ys1 hy
      rw [hnn] at hx
      obtain ⟨hi, rfl⟩ := range_item hx
      refine ⟨_, rfl, _, rfl, _, rfl, _, _, rfl, rfl, _, rfl, _, _, rfl, rfl, _, rfl, tx L, rfl, by rw [tx_len, sizeLine_eq]; omega, ?_⟩
      rw [tx_len]
      refine ⟨a, ns, n + 1 + i, L.length, rfl, (s123.trans sm).seq ha, hl, by omega, by omega, fun j H5 hj s5 => ?_⟩
      refine ⟨tx L, _, L[j], rfl, rfl, by rw [tx_len, sizeLine_eq]; omega, ?_, ?_⟩
      · rw [tx_cps]
        exact atI_nat (List.getElem?_eq_getElem hj)
      · refine hN _ _ [some (.int i)] rfl ⟨sm.trans s5, cs ++ [L[j]], by rw [List.map_append]; rfl, by rw [List.length_append, hcl]; rfl, fun c hc => ?_⟩
        rcases List.mem_append.mp hc with z | z
        · exact hcs c z
        · have : c = L[j] := by simpa using z
          rw [this]
          exact hLc _ (List.getElem_mem hj)
    · rintro acc H' ⟨sm, cs, rfl, hcl, hcs⟩ D hD
      rw [List.length_map, List.length_range, hnn] at hcl
      have esum : ((cs.map fun c => tx [c]).map (·.length)).sum = cs.length := by
        clear hcl hcs
        induction cs with
        | nil => rfl
        | cons c cs ih => rw [List.map_cons, List.map_cons, List.sum_cons, ih, List.length_cons, tx_len]; show 1 + _ = _; omega
      refine ⟨_, D, cs.map (fun c => tx [c]), rfl, rfl, .of (by rw [upd_same, List.map_map]; rfl), ?_, ?_⟩
      · rw [esum]
        show _ + _ * 0 ≤ _
        omega
      · have ej : Txt.join ⟨#[]⟩ (cs.map fun c => tx [c]) = tx cs := by
          rw [join_flat, List.map_map]
          congr 1
          clear hcl hcs esum
          congr 1
          induction cs with
          | nil => rfl
          | cons c cs ih => rw [List.map_cons, List.flatten_cons, ih]; rfl
        have kk : ∀ Hx, Same H Hx → Q (.str (Txt.join ⟨#[]⟩ (cs.map fun c => tx [c]))) Hx := fun Hx sx => by
          rw [ej]
          exact k cs Hx sx ⟨by omega, by omega, hcs⟩ (by omega)
        exact kk _ ((s123.trans sm).trans (Same.upd1 hD))
end
end Kn
end
section
set_option Elab.async false
set_option linter.all false
set_option maxRecDepth 100000
set_option maxHeartbeats 1000000
namespace Kn
open PySem L2
section
variable {P : Program} {w : World} {K : PySem.W.Frag} {mg : Str → Option Value} {base : Heap}
def spBook (K : PySem.W.Frag) : Sp := fun vs H Q _ => ∃ (a : Addr) (ns : List Int) (at' many most : Nat), vs = [.ref a, .int at', .int many, .int most] ∧ SqL K H a (ns.map V.int) ∧ ns.length ≤ 63 ∧ 1 ≤ many ∧ many ≤ 8 ∧ 1 ≤ most ∧ most ≤ 8 ∧
  ∀ (p : Addr) (bk : List S) H', Same H H' → H' p = some (.tup (bkV bk)) → 1 ≤ bk.length → bk.length ≤ many → (∀ x ∈ bk, isNm x ∧ x.length ≤ most) → Q (.ref p) H'
abbrev sBook : Stmt := top 45
theorem scBook : FnScope ["_law_script", "_law_at", "_law_many", "_law_most", "_law_found", "_law_k"] ["_law_script", "_law_at", "_law_many", "_law_most"] (defScope sBook) := ⟨rfl, rfl, rfl, by decide +kernel, rfl, by decide +kernel, by decide +kernel⟩
theorem ok_book {f : Addr} {fd : FuncData} (F : Fun K "_law_book" "_law_book" sBook f fd) (B : Blt mg) (c1 : cDr P w K mg base) (c2 : Cal P w K mg base 3 "_law_name" ["_law_script", "_law_at", "_law_most"] (spName K)) : FnOk P w K mg base CX0 4 f fd ["_law_script", "_law_at", "_law_many", "_law_most"] (spBook K) := by
  refine F.ok scBook (fun vs H Q E h => ?_) (fun cdv A outer s H vs Q E hr h => ?_)
  · obtain ⟨a, ns, k, m, l, rfl, _⟩ := h; rfl
  · obtain ⟨a, ns, n, many, most, rfl, ha, hl, hm1, hm2, hs1, hs2, k⟩ := h
    have nd := scBook.nd
    have hr2 := hr.mono (j := 2) (by decide)
    refine ⟨_, pss_cons (ps_set (i := 4) nd rfl (Or.inl rfl) (pe_tup pa_nil))
      (pss_cons (ps_for PassesOwn.never rfl (pi_range1 rfl B.range (pa_cons (pe_op op_add pe_int (pe_cal c1 hr2 rfl (pa_cons (pv 0) (pa_cons (pv 1) (pa_cons (pv 2) pa_nil))))) pa_nil)) (pg_name (i := 5) nd rfl (Or.inl rfl))
        (pss_one (ps_set (i := 4) nd rfl (Or.inl rfl) (pe_op (op_catT0.or op_catT) (pv 4) (pe_tup (pa_cons (pe_cal c2 hr rfl (pa_cons (pv 0) (pa_cons (pe_op op_add (pe_op op_add (pv 1) pe_int) (pe_op op_mul pe_int (pv 5))) (pa_cons (pv 3) pa_nil)))) pa_nil))))))
      (pss_one (ps_ret (pv 4)))), ?_⟩
    refine ⟨by show 0 ≤ sizeLine; decide, fun p0 hp0 => ?_⟩
    have s0 : Same H (upd H p0 (.tup [])) := Same.upd1 hp0
    refine ⟨_, rfl, _, rfl, _, rfl, a, ns, n, many, rfl, s0.seq ha, hl, hm1, by omega, fun sz H1 hsz s1 => ?_⟩
    refine ⟨_, _, rfl, rfl, _, rfl, by omega, by omega, ?_⟩
    have hnn : (1 + (sz : Int)).toNat = sz + 1 := by omega
    refine for_known (known_range 0 _) (fun i σ H2 => ∃ (p : Addr) (bk : List S) (y : Option V), σ = [some (.ref a), some (.int n), some (.int many), some (.int most), some (.ref p), y] ∧ Same H H2 ∧ H2 p = some (.tup (bkV bk)) ∧ bk.length = i ∧ ∀ x ∈ bk, isNm x ∧ x.length ≤ most)
      ⟨p0, [], _, rfl, s0.trans s1, s1 _ _ upd_same, rfl, by simp⟩ (fun _ _ _ _ _ => trivial) ?_ ?_
    · rintro i x σ H2 Nx hN hx ⟨p, bk, y, rfl, sm, hp, hbl, hbn⟩
      rw [hnn] at hx
      obtain ⟨hi, rfl⟩ := range_item hx
      refine ⟨_, rfl, _, rfl, _, rfl, _, _, rfl, rfl, _, rfl, _, _, rfl, rfl, .inl ⟨by decide, by decide⟩, _, _, rfl, rfl, _, rfl, a, ns, n + 1 + 10 * i, most, rfl, sm.seq ha, hl, hs1, hs2, fun x H3 s3 hx1 hx2 => ?_⟩
      refine ⟨by show 1 ≤ sizeLine; decide, fun q hq => ?_⟩
      have s4 : Same H3 (upd H3 q (.tup [sv x])) := Same.upd1 hq
      have nx : ∀ b ∈ bk ++ [x], isNm b ∧ b.length ≤ most := fun b hb => by
        rcases List.mem_append.mp hb with z | z
        · exact hbn b z
        · have : b = x := by simpa using z
          rw [this]; exact ⟨hx1, hx2⟩
      cases bk with
      | nil => exact .inl ⟨p, q, _, rfl, rfl, .of (s4 _ _ (s3 _ _ hp)), .of upd_same, hN _ _ ⟨q, [x], _, rfl, (sm.trans s3).trans s4, upd_same, by rw [← hbl]; rfl, nx⟩⟩
      | cons c cs =>
        refine .inr ⟨p, q, _, _, rfl, rfl, .of (s4 _ _ (s3 _ _ hp)), .of upd_same, by simp [bkV], ?_, fun z => by simp at z, fun _ r hr' => hN _ _ ⟨r, (c :: cs) ++ [x], _, rfl, ((sm.trans s3).trans s4).trans (Same.upd1 hr'), ?_, by rw [List.length_append, hbl]; rfl, nx⟩⟩
        · have : (bkV (c :: cs)).length = i := by rw [← hbl]; simp [bkV]
          rw [this, sizeLine_eq]
          show i + 1 ≤ _
          omega
        · rw [upd_same]
          unfold bkV
          rw [List.map_append]; rfl
    · rintro σ H2 ⟨p, bk, y, rfl, sm, hp, hbl, hbn⟩
      rw [List.length_map, List.length_range, hnn] at hbl
      exact ⟨_, rfl, k p bk H2 sm hp (by omega) (by omega) hbn⟩
end
end Kn
end
section
set_option Elab.async false
set_option linter.all false
set_option maxRecDepth 100000
set_option maxHeartbeats 1000000
namespace Kn
open PySem L2
section
variable {X : Cx} {tg : Expr}
theorem call_list_ofK (K' : PySem.W.Frag) (hK : X.K = K') : CallR X (.type "list") (fun xs H Q => ∃ p ys, xs = [.ref p] ∧ (SqL K' H p ys ∨ SqT K' H p ys) ∧ ∀ l, H l = none → Q (.ref l) (upd H l (.lst ys))) := by
  subst hK; exact call_list_of
end
theorem tx_app (a b : S) : tx a ++ tx b = tx (a ++ b) := by
  apply MyS.Str_ext
  show ((tx a).cps ++ (tx b).cps).toList = _
  simp [tx]
theorem ite_ne {d : PyData} {A B : Prop} (hd : d.canLay0 = true) (h : B) : if (if true = true then !PyData.eqv d d else PyData.eqv d d) = true then A else B := by
  rw [eqv_refl d hd]; exact h
theorem strOk_of {t : S} (h : ∀ c ∈ t, c ≤ 122) : PyData.strOk (tx t) = true := by
  unfold PyData.strOk
  rw [Array.all_eq_true']
  intro c hc
  have hc' : c ∈ t := by simpa [tx] using hc
  have := h c hc'
  exact decide_eq_true (by omega)
theorem shaped_list {ds : List PyData} (h : ∀ d ∈ ds, d.canLay0 = true ∧ d.depth ≤ 10) : SeqAt.shaped (.list ds) = true ∧ (PyData.list ds).canLay0 = true := by
  have h1 : PyData.canLayAll0 ds = true := by
    induction ds with
    | nil => rfl
    | cons d ds ih => simp only [PyData.canLayAll0, (h d (List.mem_cons_self ..)).1, ih fun e he => h e (List.mem_cons_of_mem _ he), Bool.and_self]
  have h2 : PyData.depthAll ds ≤ 10 := by
    clear h1
    induction ds with
    | nil => decide
    | cons d ds ih =>
      have a := (h d (List.mem_cons_self ..)).2
      have b := ih (fun e he => h e (List.mem_cons_of_mem _ he))
      simp only [PyData.depthAll]; omega
  have h3 : (PyData.list ds).canLay0 = true := by simp only [PyData.canLay0]; exact h1
  have h4 : (PyData.list ds).depth ≤ 64 := by simp only [PyData.depth]; omega
  unfold SeqAt.shaped
  rw [h3, decide_eq_true h4]; exact ⟨rfl, rfl⟩
theorem pair_chars {o : Nat} {t : S} (h : isNm t) {p : S × S} (hp : p ∈ pairs1 o t) : (∀ c ∈ p.1, 97 ≤ c ∧ c ≤ 122) ∧ ∀ c ∈ p.2, 97 ≤ c ∧ c ≤ 122 := by
  obtain ⟨i, _, rfl⟩ := List.mem_map.mp hp
  refine ⟨fun c hc => ?_, fun c hc => ?_⟩
  · exact h.2.2 c (List.mem_of_mem_take (List.mem_of_mem_drop hc))
  · exact h.2.2 c (List.mem_of_mem_drop (List.mem_of_mem_take hc))
theorem plen_le4 {bk : List S} {o : Nat} (h : ∀ x ∈ bk, x.length ≤ 4) : (pairsB o bk).length ≤ 5 * bk.length := by
  have e := pairsB_length o bk
  have go : ∀ l : List S, (∀ x ∈ l, x.length ≤ 4) → (l.map fun x => (x.length : Int) + 1).sum ≤ 5 * (l.length : Int) := by
    intro l
    induction l with
    | nil => intro _; simp
    | cons x r ih =>
      intro hl
      have h1 := hl x (List.mem_cons_self ..)
      have h2 := ih fun y hy => hl y (List.mem_cons_of_mem _ hy)
      rw [List.map_cons, List.sum_cons, List.length_cons]
      have : ((r.length + 1 : Nat) : Int) = (r.length : Int) + 1 := rfl
      omega
  have := go bk h
  omega
section
variable {K : PySem.W.Frag}
theorem repL {H : Hp} {a : Addr} {xs : List V} {ds : List PyData} (h : H a = some (.lst xs)) (rp : Reps K H ds xs) : Rep K H (.list ds) (.ref a) := ⟨a, xs, rfl, .of h, rp⟩
end
theorem IsRow.len {ps : List (S × S)} {e : S} {rs : List (S × Int)} (r : IsRow ps e rs) : rs.length ≤ ps.length := by
  have h1 := r.total
  have h2 : (ps.filter fun p => p.1 = e).length ≤ ps.length := List.length_filter_le ..
  have h3 : ∀ q ∈ rs, 0 < q.2 := fun q hq => ((r.mem q.1 q.2).mp hq).2
  have go : ∀ l : List (S × Int), (∀ q ∈ l, 0 < q.2) → (l.length : Int) ≤ (l.map (·.2)).sum := by
    intro l
    induction l with
    | nil => intro _; simp
    | cons q l ih =>
      intro hl
      have a := hl q (List.mem_cons_self ..)
      have b := ih fun x hx => hl x (List.mem_cons_of_mem _ hx)
      rw [List.map_cons, List.sum_cons, List.length_cons]
      have : ((l.length + 1 : Nat) : Int) = (l.length : Int) + 1 := rfl
      omega
  have := go rs h3
  omega
structure Blt2 (mg : Str → Option Value) : Prop where
  max : mg "max" = none
  dict : mg "dict" = none
  list : mg "list" = none
end Kn
end
section
set_option Elab.async false
set_option linter.all false
set_option maxRecDepth 100000
set_option maxHeartbeats 1000000
namespace Kn
open PySem L2
mutual
def Thg (H : Hp) : PyData → V → Prop
  | .none, v => v = .non
  | .bool b, v => v = .bl b
  | .int i, v => v = .int i
  | .str x, v => v = .str x
  | .list ds, v => ∃ a xs, v = .ref a ∧ H a = some (.lst xs) ∧ Thgs H ds xs
  | .tuple ds, v => ∃ a xs, v = .ref a ∧ H a = some (.tup xs) ∧ Thgs H ds xs
  | .dict _, _ => False
def Thgs (H : Hp) : List PyData → List V → Prop
  | [], xs => xs = []
  | d :: ds, xs => ∃ y ys, xs = y :: ys ∧ Thg H d y ∧ Thgs H ds ys
end
mutual
theorem Thg.same {H H' : Hp} (e : Same H H') : ∀ (d : PyData) (v : V), Thg H d v → Thg H' d v
  | .none, v, h => h
  | .bool b, v, h => h
  | .int i, v, h => h
  | .str x, v, h => h
  | .list ds, v, h => by
    obtain ⟨a, xs, h1, h2, h3⟩ := h
    exact ⟨a, xs, h1, e _ _ h2, Thgs.same e ds xs h3⟩
  | .tuple ds, v, h => by
    obtain ⟨a, xs, h1, h2, h3⟩ := h
    exact ⟨a, xs, h1, e _ _ h2, Thgs.same e ds xs h3⟩
  | .dict _, v, h => h
theorem Thgs.same {H H' : Hp} (e : Same H H') : ∀ (ds : List PyData) (xs : List V), Thgs H ds xs → Thgs H' ds xs
  | [], xs, h => h
  | d :: ds, xs, h => by
    obtain ⟨y, ys, h1, h2, h3⟩ := h
    exact ⟨y, ys, h1, Thg.same e d y h2, Thgs.same e ds ys h3⟩
end
mutual
theorem Thg.rep {K : PySem.W.Frag} {H : Hp} : ∀ (d : PyData) (v : V), Thg H d v → Rep K H d v
  | .none, v, h => h
  | .bool b, v, h => h
  | .int i, v, h => h
  | .str x, v, h => h
  | .list ds, v, h => by
    obtain ⟨a, xs, h1, h2, h3⟩ := h
    exact ⟨a, xs, h1, .of h2, Thgs.reps ds xs h3⟩
  | .tuple ds, v, h => by
    obtain ⟨a, xs, h1, h2, h3⟩ := h
    exact ⟨a, xs, h1, .of h2, Thgs.reps ds xs h3⟩
  | .dict _, v, h => h
theorem Thgs.reps {K : PySem.W.Frag} {H : Hp} : ∀ (ds : List PyData) (xs : List V), Thgs H ds xs → Reps K H ds xs
  | [], xs, h => h
  | d :: ds, xs, h => by
    obtain ⟨y, ys, h1, h2, h3⟩ := h
    exact ⟨y, ys, h1, Thg.rep d y h2, Thgs.reps ds ys h3⟩
end
theorem Thgs.length {H : Hp} : ∀ {ds : List PyData} {xs : List V}, Thgs H ds xs → ds.length = xs.length
  | [], xs, h => by rw [show xs = [] from h]; rfl
  | d :: ds, xs, h => by
    obtain ⟨y, ys, h1, _, h3⟩ := h
    rw [h1, List.length_cons, List.length_cons, Thgs.length h3]
theorem Thgs.get {H : Hp} : ∀ {ds : List PyData} {xs : List V} {i : Nat} {y : V}, Thgs H ds xs → xs[i]? = some y → ∃ d, ds[i]? = some d ∧ Thg H d y
  | [], xs, i, y, h, e => by rw [show xs = [] from h] at e; simp at e
  | d :: ds, xs, i, y, h, e => by
    obtain ⟨z, zs, h1, h2, h3⟩ := h
    subst h1
    cases i with
    | zero =>
      have : z = y := by simpa using e
      subst this
      exact ⟨d, rfl, h2⟩
    | succ i =>
      obtain ⟨d', e1, e2⟩ := Thgs.get (i := i) h3 (by simpa using e)
      exact ⟨d', by simpa using e1, e2⟩
theorem Thgs.append {H : Hp} : ∀ {ds es : List PyData} {xs ys : List V}, Thgs H ds xs → Thgs H es ys → Thgs H (ds ++ es) (xs ++ ys)
  | [], es, xs, ys, h, h' => by rw [show xs = [] from h]; exact h'
  | d :: ds, es, xs, ys, h, h' => by
    obtain ⟨z, zs, h1, h2, h3⟩ := h
    subst h1
    exact ⟨z, zs ++ ys, rfl, h2, Thgs.append h3 h'⟩
theorem Thgs.strs {H : Hp} : ∀ (l : List S), Thgs H (l.map fun x => PyData.str (tx x)) (l.map sv)
  | [] => rfl
  | x :: l => ⟨_, _, rfl, rfl, Thgs.strs l⟩
mutual
def sml : PyData → Bool
  | .str x => decide (x.length ≤ 900) && x.cps.toList.all fun c => decide (c < 128)
  | .list ds => decide (ds.length ≤ 900) && smls ds
  | .tuple ds => decide (ds.length ≤ 900) && smls ds
  | .dict _ => false
  | _ => true
def smls : List PyData → Bool
  | [] => true
  | d :: ds => sml d && smls ds
end
theorem smls_mem : ∀ {ds : List PyData} {d : PyData}, smls ds = true → d ∈ ds → sml d = true
  | e :: ds, d, h, hm => by
    have h' : sml e = true ∧ smls ds = true := by simpa [smls] using h
    rcases List.mem_cons.mp hm with z | z
    · rw [z]; exact h'.1
    · exact smls_mem h'.2 z
def isLet (c : Nat) : Bool := decide (97 ≤ c) && decide (c ≤ 122)
def isNameD : PyData → Bool
  | .str x => (decide (1 ≤ x.length) && decide (x.length ≤ 8)) && x.cps.toList.all isLet
  | _ => false
def isBookD : PyData → Bool
  | .tuple ds => (decide (1 ≤ ds.length) && decide (ds.length ≤ 8)) && ds.all isNameD
  | _ => false
def isOrderD : PyData → Bool
  | .int i => decide (1 ≤ i) && decide (i ≤ 3)
  | _ => false
theorem isNameD_inv {d : PyData} (h : isNameD d = true) : ∃ x : S, d = .str (tx x) ∧ isNm x := by
  cases d with
  | str x =>
    simp only [isNameD, Bool.and_eq_true, decide_eq_true_eq, List.all_eq_true, isLet] at h
    refine ⟨x.cps.toList, by rw [tx_eta], ?_, ?_, h.2⟩
    · have := h.1.1; simpa [Str.length] using this
    · have := h.1.2; simpa [Str.length] using this
  | none => cases h
  | bool b => cases h
  | int i => cases h
  | list ds => cases h
  | tuple ds => cases h
  | dict _ => cases h
theorem isNameD_of {x : S} (h : isNm x) : isNameD (.str (tx x)) = true := by
  simp only [isNameD, Bool.and_eq_true, decide_eq_true_eq, List.all_eq_true, isLet, tx_len, tx_cps]
  exact ⟨⟨h.1, h.2.1⟩, h.2.2⟩
theorem isBookD_inv {d : PyData} (h : isBookD d = true) : ∃ bk : List S, d = .tuple (bk.map fun x => PyData.str (tx x)) ∧ isBk bk := by
  cases d with
  | tuple ds =>
    simp only [isBookD, Bool.and_eq_true, decide_eq_true_eq, List.all_eq_true] at h
    obtain ⟨⟨h1, h2⟩, h3⟩ := h
    have go : ∀ ds : List PyData, (∀ d ∈ ds, isNameD d = true) → ∃ bk : List S, ds = bk.map (fun x => PyData.str (tx x)) ∧ ∀ x ∈ bk, isNm x := by
      intro ds
      induction ds with
      | nil => intro _; exact ⟨[], rfl, by simp⟩
      | cons d ds ih =>
        intro hd
        obtain ⟨x, rfl, hx⟩ := isNameD_inv (hd d (List.mem_cons_self ..))
        obtain ⟨bk, rfl, hb⟩ := ih fun e he => hd e (List.mem_cons_of_mem _ he)
        refine ⟨x :: bk, rfl, fun y hy => ?_⟩
        rcases List.mem_cons.mp hy with z | z
        · rw [z]; exact hx
        · exact hb y z
    obtain ⟨bk, rfl, hb⟩ := go ds h3
    rw [List.length_map] at h1 h2
    exact ⟨bk, rfl, h1, h2, hb⟩
  | none => cases h
  | bool b => cases h
  | int i => cases h
  | list ds => cases h
  | str x => cases h
  | dict _ => cases h
theorem isBookD_of {bk : List S} (h : isBk bk) : isBookD (.tuple (bk.map fun x => PyData.str (tx x))) = true := by
  simp only [isBookD, Bool.and_eq_true, decide_eq_true_eq, List.all_eq_true, List.length_map]
  refine ⟨⟨h.lo, h.hi⟩, fun d hd => ?_⟩
  obtain ⟨x, hx, rfl⟩ := List.mem_map.mp hd
  exact isNameD_of (h.nm x hx)
theorem Thgs.strs_inv {H : Hp} : ∀ {l : List S} {xs : List V}, Thgs H (l.map fun x => PyData.str (tx x)) xs → xs = l.map sv
  | [], xs, h => h
  | x :: l, xs, h => by
    obtain ⟨y, ys, h1, h2, h3⟩ := h
    have h2' : y = sv x := h2
    rw [h1, h2', Thgs.strs_inv h3]; rfl
theorem thg_book {H : Hp} {d : PyData} {v : V} (h : Thg H d v) (hb : isBookD d = true) : ∃ (a : Addr) (bk : List S), v = .ref a ∧ H a = some (.tup (bkV bk)) ∧ isBk bk ∧ d = .tuple (bk.map fun x => PyData.str (tx x)) := by
  obtain ⟨bk, rfl, hk⟩ := isBookD_inv hb
  obtain ⟨a, xs, rfl, h1, h2⟩ := h
  rw [Thgs.strs_inv h2] at h1
  exact ⟨a, bk, rfl, h1, hk, rfl⟩
theorem thg_order {H : Hp} {d : PyData} {v : V} (h : Thg H d v) (hb : isOrderD d = true) : ∃ o : Nat, v = .int o ∧ 1 ≤ o ∧ o ≤ 3 := by
  cases d with
  | int i =>
    simp only [isOrderD, Bool.and_eq_true, decide_eq_true_eq] at hb
    refine ⟨i.toNat, ?_, by omega, by omega⟩
    rw [show v = .int i from h]
    congr 1
    omega
  | none => cases hb
  | bool b => cases hb
  | list ds => cases hb
  | tuple ds => cases hb
  | str x => cases hb
  | dict _ => cases hb
theorem thg_name {H : Hp} {d : PyData} {v : V} (h : Thg H d v) (hb : isNameD d = true) : ∃ x : S, v = sv x ∧ isNm x ∧ d = .str (tx x) := by
  obtain ⟨x, rfl, hx⟩ := isNameD_inv hb
  exact ⟨x, h, hx, rfl⟩
structure KitF (K : PySem.W.Frag) : Prop where
  ns : PySem.W.kitOne K (.type "NoneType") (.type "str") = some false
  bs : PySem.W.kitOne K (.type "bool") (.type "str") = some false
  is : PySem.W.kitOne K (.type "int") (.type "str") = some false
  ls : PySem.W.kitOne K (.type "list") (.type "str") = some false
  ts : PySem.W.kitOne K (.type "tuple") (.type "str") = some false
  nt : PySem.W.kitOne K (.type "NoneType") (.type "tuple") = some false
  bt : PySem.W.kitOne K (.type "bool") (.type "tuple") = some false
  it : PySem.W.kitOne K (.type "int") (.type "tuple") = some false
  lt : PySem.W.kitOne K (.type "list") (.type "tuple") = some false
  st : PySem.W.kitOne K (.type "str") (.type "tuple") = some false
  ni : PySem.W.kitOne K (.type "NoneType") (.type "int") = some false
  bi : PySem.W.kitOne K (.type "bool") (.type "int") = some true
  li : PySem.W.kitOne K (.type "list") (.type "int") = some false
  ti : PySem.W.kitOne K (.type "tuple") (.type "int") = some false
  si : PySem.W.kitOne K (.type "str") (.type "int") = some false
theorem in_letters128 {c : Nat} (h : c < 128) : (Builtin.Str.occurrences letters ⟨#[c]⟩ 0 letters.length 1).isEmpty = !isLet c := by
  have all : ∀ d : _root_.Fin 128, (Builtin.Str.occurrences letters ⟨#[d.val]⟩ 0 letters.length 1).isEmpty = !isLet d.val := by decide +kernel
  exact all ⟨c, h⟩
section
variable {P : Program} {w : World} {K : PySem.W.Frag} {mg : Str → Option Value} {base : Heap}
theorem ty_str (KF : KitF K) {H : Hp} : ∀ {d : PyData} {v : V}, Thg H d v → ∃ t b, TyOf K H v t ∧ PySem.W.kitOne K t (.type "str") = some b ∧ (b = true ↔ ∃ x, d = .str x)
  | .none, v, h => by cases (show v = .non from h); exact ⟨_, _, .non, KF.ns, by simp⟩
  | .bool b, v, h => by cases (show v = .bl b from h); exact ⟨_, _, .bl _, KF.bs, by simp⟩
  | .int i, v, h => by cases (show v = .int i from h); exact ⟨_, _, .int _, KF.is, by simp⟩
  | .str x, v, h => by cases (show v = .str x from h); exact ⟨_, true, .str _, rfl, by simp⟩
  | .list ds, v, h => by obtain ⟨a, xs, rfl, h1, _⟩ := h; exact ⟨_, _, .lst h1, KF.ls, by simp⟩
  | .tuple ds, v, h => by obtain ⟨a, xs, rfl, h1, _⟩ := h; exact ⟨_, _, .tup h1, KF.ts, by simp⟩
  | .dict _, v, h => h.elim
theorem ty_tup (KF : KitF K) {H : Hp} : ∀ {d : PyData} {v : V}, Thg H d v → ∃ t b, TyOf K H v t ∧ PySem.W.kitOne K t (.type "tuple") = some b ∧ (b = true ↔ ∃ ds, d = .tuple ds)
  | .none, v, h => by cases (show v = .non from h); exact ⟨_, _, .non, KF.nt, by simp⟩
  | .bool b, v, h => by cases (show v = .bl b from h); exact ⟨_, _, .bl _, KF.bt, by simp⟩
  | .int i, v, h => by cases (show v = .int i from h); exact ⟨_, _, .int _, KF.it, by simp⟩
  | .str x, v, h => by cases (show v = .str x from h); exact ⟨_, _, .str _, KF.st, by simp⟩
  | .list ds, v, h => by obtain ⟨a, xs, rfl, h1, _⟩ := h; exact ⟨_, _, .lst h1, KF.lt, by simp⟩
  | .tuple ds, v, h => by obtain ⟨a, xs, rfl, h1, _⟩ := h; exact ⟨_, true, .tup h1, rfl, by simp⟩
  | .dict _, v, h => h.elim
def spIsNameT : Sp := fun vs H Q _ => ∃ v d, vs = [v] ∧ Thg H d v ∧ sml d = true ∧ ∀ H', Same H H' → Q (.bl (isNameD d)) H'
theorem ok_isnameT {f : Addr} {fd : FuncData} (F : Fun K "is_name" "is_name" sIsName f fd) (B : Blt mg) (C : Cst K mg) (KF : KitF K) : FnOk P w K mg base CX0 1 f fd ["thing"] spIsNameT := by
  obtain ⟨tl, hl⟩ := C.letters
  obtain ⟨t8, h8⟩ := C.ml
  refine F.ok scIsName (fun vs H Q E h => ?_) (fun cdv A outer s H vs Q E hr h => ?_)
  · obtain ⟨v, d, rfl, _⟩ := h; rfl
  · obtain ⟨v, d, rfl, hv, hs, k⟩ := h
    refine ⟨_, pss_cons (ps_if (PW.pt (pw_or (pt_not (pt_val (pe_callB call_isinst (by rfl) B.isinstance PyProof.Rows.boot_isinstance (pa_cons (pv 0) (pa_cons (pe_bltn (v := .ty "str") (by rfl) B.str PyProof.Rows.boot_str rfl) pa_nil)))))
        (pw_or1 (pt_not (pt_chain op_le op_le pe_int (pe_callB call_len_str (by rfl) B.len PySem.boot_len (pa_cons (pv 0) pa_nil)) (pe_glob (v := .int 8) (by rfl) h8 ⟨_, rfl⟩))))))
        (pss_one (ps_ret pe_bl)) pss_nil)
      (pss_one (ps_ret (pe_callB (call_all rfl) (by rfl) B.all PyProof.Rows.boot_all (pa_cons (pe_comp (N := ["letter"]) (caps := []) rfl (compScope_of (by kernel_rfl)) (pi_str (pv 0))
        (fun cl C s H ex => pg_name (i := 0) nd1 rfl (Or.inl rfl)) (fun cl C s H ex => pf_nil)
        (fun cl C s H ex => pe_cmpR op_in_str (pv 0) (pe_glob (v := .str letters) (by rfl) hl ⟨_, rfl⟩) (by with_unfolding_all rfl))) pa_nil)))), ?_⟩
    obtain ⟨t, b, hty, hkit, hb⟩ := ty_str KF hv
    refine ⟨_, rfl, _, _, t, b, rfl, hty, hkit, b, rfl, ?_⟩
    cases b with
    | false =>
      have hd : isNameD d = false := by
        cases d with
        | str x => exact absurd (hb.mpr ⟨x, rfl⟩) (by decide)
        | _ => rfl
      rw [hd] at k
      exact iteT (iteT (k H (Same.refl H)))
    | true =>
      obtain ⟨x, rfl⟩ := hb.mp rfl
      have hv' : v = .str x := hv
      subst hv'
      have hsx : x.length ≤ 900 ∧ ∀ c ∈ x.cps.toList, c < 128 := by
        simp only [sml, Bool.and_eq_true, decide_eq_true_eq, List.all_eq_true] at hs
        exact hs
      refine iteF ?_
      refine ⟨_, rfl, x, rfl, (by rw [sizeLine_eq]; omega), _, _, rfl, rfl, _, rfl, ?_⟩
      by_cases h1 : 1 ≤ x.length
      · refine iteD (by omega) ⟨_, _, rfl, rfl, _, rfl, ?_⟩
        by_cases h2 : x.length ≤ 8
        · refine iteNS (by omega) ?_
          refine ⟨_, rfl, _, rfl, ?_⟩
          have hxl : x.cps.toList.length = x.length := by simp [Str.length]
          refine comp_known0 (known_str x) [] 1 (by rw [List.length_map]; omega) (fun i acc H' => Same H H' ∧ acc = ((x.cps.toList.take i).map isLet).map V.bl) ⟨Same.refl H, rfl⟩ (fun i acc H' _ h => ⟨trivial, by rw [h.2, List.length_map, List.length_map, List.length_take]; omega⟩) ?_ ?_
          · rintro i y acc H' ys Nx hN hx hy ⟨sm, rfl⟩
            obtain ⟨y', rfl⟩ := ys1 hy
            rw [List.getElem?_map] at hx
            cases e : x.cps.toList[i]? with
            | none => rw [e] at hx; cases hx
            | some c =>
              rw [e] at hx
              have hy2 : y = .str ⟨#[c]⟩ := (Option.some.inj hx).symm
              subst hy2
              have hi : i < x.cps.toList.length := (List.getElem?_eq_some_iff.mp e).1
              refine ⟨_, rfl, _, _, rfl, rfl, ?_⟩
              rw [in_letters128 (hsx.2 c (List.mem_of_getElem? e)), Bool.not_not]
              refine hN _ _ [some (.str ⟨#[c]⟩)] rfl ⟨sm, ?_⟩
              rw [List.take_succ_eq_append_getElem hi, (List.getElem?_eq_some_iff.mp e).2, List.map_append, List.map_append]; rfl
          · rintro acc H' ⟨sm, rfl⟩ D hD
            rw [List.length_map, List.take_length]
            refine ⟨D, _, rfl, .of upd_same, ?_⟩
            have e2 : ((x.cps.toList.map isLet).all id) = isNameD (.str x) := by
              simp only [isNameD, decide_eq_true h1, decide_eq_true h2, Bool.and_self, Bool.true_and, List.all_map]
              rfl
            rw [e2]
            exact k _ (sm.upd_new (sm.free hD))
        · have hd : isNameD (.str x) = false := by simp [isNameD, h2]
          rw [hd] at k
          refine ite_nn (fun z => h2 (by omega)) (k H (Same.refl H))
      · have hd : isNameD (.str x) = false := by simp [isNameD, h1]
        rw [hd] at k
        refine iteDF (fun z => h1 (by omega)) ?_
        exact ⟨false, rfl, iteT (k H (Same.refl H))⟩
def spIsBookT : Sp := fun vs H Q _ => ∃ v d, vs = [v] ∧ Thg H d v ∧ sml d = true ∧ ∀ H', Same H H' → Q (.bl (isBookD d)) H'
theorem ok_isbookT {f : Addr} {fd : FuncData} (F : Fun K "is_book" "is_book" sIsBook f fd) (B : Blt mg) (C : Cst K mg) (KF : KitF K) (cName : Cal P w K mg base 1 "is_name" ["thing"] spIsNameT) : FnOk P w K mg base CX0 2 f fd ["thing"] spIsBookT := by
  obtain ⟨t8, h8⟩ := C.mn
  refine F.ok scIsBook (fun vs H Q E h => ?_) (fun cdv A outer s H vs Q E hr h => ?_)
  · obtain ⟨v, d, rfl, _⟩ := h; rfl
  · obtain ⟨v, d, rfl, hv, hs, k⟩ := h
    refine ⟨_, pss_cons (ps_if (PW.pt (pw_or (pt_not (pt_val (pe_callB call_isinst (by rfl) B.isinstance PyProof.Rows.boot_isinstance (pa_cons (pv 0) (pa_cons (pe_bltn (v := .ty "tuple") (by rfl) B.tuple PyProof.Rows.boot_tuple rfl) pa_nil)))))
        (pw_or1 (pt_not (pt_chain op_le op_le pe_int (pe_callB call_len_seq (by rfl) B.len PySem.boot_len (pa_cons (pv 0) pa_nil)) (pe_glob (v := .int 8) (by rfl) h8 ⟨_, rfl⟩))))))
        (pss_one (ps_ret pe_bl)) pss_nil)
      (pss_one (ps_ret (pe_callB (call_all rfl) (by rfl) B.all PyProof.Rows.boot_all (pa_cons (pe_comp (N := ["name"]) (caps := []) rfl (compScope_of (by kernel_rfl)) (pi_tup (pv 0))
        (fun cl C s H ex => pg_name (i := 0) nd2 rfl (Or.inl rfl)) (fun cl C s H ex => pf_nil)
        (fun cl C s H ex => pe_cal cName hr rfl (pa_cons (pv 0) pa_nil))) pa_nil)))), ?_⟩
    obtain ⟨t, b, hty, hkit, hb⟩ := ty_tup KF hv
    refine ⟨_, rfl, _, _, t, b, rfl, hty, hkit, b, rfl, ?_⟩
    cases b with
    | false =>
      have hd : isBookD d = false := by
        cases d with
        | tuple x => exact absurd (hb.mpr ⟨x, rfl⟩) (by decide)
        | _ => rfl
      rw [hd] at k
      exact iteT (iteT (k H (Same.refl H)))
    | true =>
      obtain ⟨ds, rfl⟩ := hb.mp rfl
      obtain ⟨a, xs, rfl, ha, hxs⟩ := hv
      have hsx : ds.length ≤ 900 ∧ smls ds = true := by
        simp only [sml, Bool.and_eq_true, decide_eq_true_eq] at hs
        exact hs
      have hxl : xs.length = ds.length := hxs.length.symm
      refine iteF ?_
      refine ⟨_, rfl, _, _, rfl, .inr (.of ha), _, _, rfl, rfl, _, rfl, ?_⟩
      by_cases h1 : 1 ≤ ds.length
      · refine iteD (by rw [hxl]; omega) ⟨_, _, rfl, rfl, _, rfl, ?_⟩
        by_cases h2 : ds.length ≤ 8
        · refine iteNS (by rw [hxl]; omega) ?_
          refine ⟨_, rfl, a, rfl, ⟨_, .of ha⟩, ?_⟩
          refine comp_known0 (known_tup _ a xs) [] 1 (by omega) (fun i acc H' => Same H H' ∧ acc = ((ds.take i).map isNameD).map V.bl) ⟨Same.refl H, rfl⟩ (fun i acc H' _ h => ⟨.of (h.1 _ _ ha), by rw [h.2, List.length_map, List.length_map, List.length_take]; omega⟩) ?_ ?_
          · rintro i y acc H' ys Nx hN hx hy ⟨sm, rfl⟩
            obtain ⟨y', rfl⟩ := ys1 hy
            obtain ⟨e, he, hye⟩ := hxs.get hx
            have hi : i < ds.length := (List.getElem?_eq_some_iff.mp he).1
            refine ⟨_, rfl, y, e, rfl, Thg.same sm _ _ hye, smls_mem hsx.2 (List.mem_of_getElem? he), fun H5 sm5 => hN _ _ [some y] rfl ⟨sm.trans sm5, ?_⟩⟩
            rw [List.take_succ_eq_append_getElem hi, (List.getElem?_eq_some_iff.mp he).2, List.map_append, List.map_append]; rfl
          · rintro acc H' ⟨sm, rfl⟩ D hD
            rw [hxl, List.take_length]
            refine ⟨D, _, rfl, .of upd_same, ?_⟩
            have e2 : ((ds.map isNameD).all id) = isBookD (.tuple ds) := by
              simp only [isBookD, decide_eq_true h1, decide_eq_true h2, Bool.and_self, Bool.true_and, List.all_map]
              rfl
            rw [e2]
            exact k _ (sm.upd_new (sm.free hD))
        · have hd : isBookD (.tuple ds) = false := by simp [isBookD, h2]
          rw [hd] at k
          refine ite_nn (fun z => h2 (by rw [hxl] at z; omega)) (k H (Same.refl H))
      · have hd : isBookD (.tuple ds) = false := by simp [isBookD, h1]
        rw [hd] at k
        refine iteDF (fun z => h1 (by rw [hxl] at z; omega)) ?_
        exact ⟨false, rfl, iteT (k H (Same.refl H))⟩
def isWholeD (a b : Int) : PyData → Bool
  | .int i => decide (a ≤ i) && decide (i ≤ b)
  | _ => false
theorem isOrder_whole (d : PyData) : isOrderD d = isWholeD 1 3 d := by
  cases d <;> rfl
def spIsWholeT : Sp := fun vs H Q _ => ∃ v d a b, vs = [v, .int a, .int b] ∧ Thg H d v ∧ Q (.bl (isWholeD a b d)) H
theorem ok_iswholeT {f : Addr} {fd : FuncData} (F : Fun K "is_whole" "is_whole" sIsWhole f fd) (B : Blt mg) (C : Cst K mg) (KF : KitF K) : FnOk P w K mg base CX0 1 f fd ["thing", "least", "most"] spIsWholeT := by
  refine F.ok scIsWhole (fun vs H Q E h => ?_) (fun cdv A outer s H vs Q E hr h => ?_)
  · obtain ⟨v, d, a, b, rfl, _⟩ := h; rfl
  · obtain ⟨v, d, a, b, rfl, hv, k⟩ := h
    refine ⟨_, pss_cons (ps_if (PW.pt (pw_or (pt_not (pt_val (pe_callB call_isinst (by rfl) B.isinstance PyProof.Rows.boot_isinstance (pa_cons (pv 0) (pa_cons (pe_bltn (v := .ty "int") (by rfl) B.int PyProof.Rows.boot_int rfl) pa_nil)))))
        (pw_or1 (pt_val (pe_callB call_isinst (by rfl) B.isinstance PyProof.Rows.boot_isinstance (pa_cons (pv 0) (pa_cons (pe_bltn (v := .ty "bool") (by rfl) B.bool PyProof.Rows.boot_bool rfl) pa_nil)))))))
        (pss_one (ps_ret pe_bl)) pss_nil)
      (pss_one (ps_ret (pe_chain op_le op_le (pv 1) (pv 0) (pv 2)))), ?_⟩
    cases d with
    | none => cases (show v = .non from hv); exact ⟨_, rfl, _, _, _, false, rfl, .non, KF.ni, _, rfl, iteT (iteT k)⟩
    | str x => cases (show v = .str x from hv); exact ⟨_, rfl, _, _, _, false, rfl, .str _, KF.si, _, rfl, iteT (iteT k)⟩
    | list ds => obtain ⟨a, xs, rfl, h1, _⟩ := hv; exact ⟨_, rfl, _, _, _, false, rfl, .lst h1, KF.li, _, rfl, iteT (iteT k)⟩
    | tuple ds => obtain ⟨a, xs, rfl, h1, _⟩ := hv; exact ⟨_, rfl, _, _, _, false, rfl, .tup h1, KF.ti, _, rfl, iteT (iteT k)⟩
    | dict _ => exact hv.elim
    | bool b =>
      cases (show v = .bl b from hv)
      exact ⟨_, rfl, _, _, _, true, rfl, .bl _, KF.bi, _, rfl, iteF ⟨_, rfl, _, _, _, true, rfl, .bl _, (by rfl), _, rfl, iteT k⟩⟩
    | int i =>
      cases (show v = .int i from hv)
      refine ⟨_, rfl, _, _, _, true, rfl, .int _, (by rfl), _, rfl, ?_⟩
      refine iteF ?_
      refine ⟨_, rfl, _, _, _, false, rfl, .int _, C.ib, _, rfl, ?_⟩
      refine iteF ?_
      refine ⟨_, rfl, _, rfl, _, _, rfl, rfl, _, rfl, ?_⟩
      by_cases h1 : a ≤ i
      · refine iteD h1 ⟨_, rfl, _, _, rfl, rfl, ?_⟩
        have e : isWholeD a b (.int i) = decide (i ≤ b) := by simp [isWholeD, h1]
        rw [e] at k
        exact k
      · have e : isWholeD a b (.int i) = false := by simp [isWholeD, h1]
        rw [e] at k
        exact iteDF h1 k
def spIsOrderT : Sp := fun vs H Q _ => ∃ v d, vs = [v] ∧ Thg H d v ∧ Q (.bl (isOrderD d)) H
theorem ok_isorderT {f : Addr} {fd : FuncData} (F : Fun K "is_order" "is_order" sIsOrder f fd) (C : Cst K mg) (cW : Cal P w K mg base 1 "is_whole" ["thing", "least", "most"] spIsWholeT) : FnOk P w K mg base CX0 2 f fd ["thing"] spIsOrderT := by
  obtain ⟨t3, h3⟩ := C.mo
  refine F.ok scIsOrder (fun vs H Q E h => ?_) (fun cdv A outer s H vs Q E hr h => ?_)
  · obtain ⟨v, d, rfl, _⟩ := h; rfl
  · obtain ⟨v, d, rfl, hv, k⟩ := h
    refine ⟨_, pss_one (ps_ret (pe_cal cW hr rfl (pa_cons (pv 0) (pa_cons pe_int (pa_cons (pe_glob (v := .int 3) (by rfl) h3 ⟨_, rfl⟩) pa_nil))))), ?_⟩
    rw [isOrder_whole] at k
    exact ⟨_, rfl, v, d, 1, 3, rfl, hv, k⟩
structure Errs (K : PySem.W.Frag) (mg : Str → Option Value) (nb no nn : Addr) : Prop where
  b : XCls K mg "NoBook" nb
  o : XCls K mg "NoOrder" no
  n : XCls K mg "NoName" nn
def spRef (C : Addr) (ok : PyData → Bool) : Sp := fun vs H Q E => ∃ v d, vs = [v] ∧ Thg H d v ∧ sml d = true ∧ (ok d = true → ∀ H', Same H H' → Q .non H') ∧ (ok d = false → ∀ H', Same H H' → E (.ref C) none H')
theorem ok_needbookR {f : Addr} {fd : FuncData} {C : Addr} (F : Fun K "need_book" "need_book" sNeedBook f fd) (O : XCls K mg "NoBook" C) (c1 : Cal P w K mg base 2 "is_book" ["thing"] spIsBookT) : FnOk P w K mg base (CXr P w) 3 f fd ["thing"] (spRef C isBookD) := by
  refine F.okR scNeedBook (fun vs H Q E h => ?_) (fun cdv A outer s H vs Q E hr h ok => ?_)
  · obtain ⟨v, d, rfl, _⟩ := h; rfl
  · obtain ⟨v, d, rfl, hv, hs, k1, k2⟩ := h
    refine ⟨_, pss_one (ps_if (pt_not (pt_val (pe_cal c1 hr rfl (pa_cons (pv 0) pa_nil)))) (pss_one (ps_raise ok rfl O (by rfl) (pa_cons pe_str pa_nil))) pss_nil), ?_⟩
    refine ⟨_, rfl, v, d, rfl, hv, hs, fun H' sm => ⟨_, rfl, ?_⟩⟩
    cases e : isBookD d with
    | true => exact iteF (k1 e H' sm)
    | false => exact iteT ⟨by show 1 ≤ sizeLine; decide, k2 e H' sm⟩
theorem ok_needorderR {f : Addr} {fd : FuncData} {C : Addr} (F : Fun K "need_order" "need_order" sNeedOrder f fd) (O : XCls K mg "NoOrder" C) (c1 : Cal P w K mg base 2 "is_order" ["thing"] spIsOrderT) : FnOk P w K mg base (CXr P w) 3 f fd ["thing"] (spRef C isOrderD) := by
  refine F.okR scNeedOrder (fun vs H Q E h => ?_) (fun cdv A outer s H vs Q E hr h ok => ?_)
  · obtain ⟨v, d, rfl, _⟩ := h; rfl
  · obtain ⟨v, d, rfl, hv, hs, k1, k2⟩ := h
    refine ⟨_, pss_one (ps_if (pt_not (pt_val (pe_cal c1 hr rfl (pa_cons (pv 0) pa_nil)))) (pss_one (ps_raise ok rfl O (by rfl) (pa_cons pe_str pa_nil))) pss_nil), ?_⟩
    refine ⟨_, rfl, v, d, rfl, hv, _, rfl, ?_⟩
    cases e : isOrderD d with
    | true => exact iteF (k1 e H (Same.refl H))
    | false => exact iteT ⟨by show 1 ≤ sizeLine; decide, k2 e H (Same.refl H)⟩
theorem ok_neednameR {f : Addr} {fd : FuncData} {C : Addr} (F : Fun K "need_name" "need_name" sNeedName f fd) (O : XCls K mg "NoName" C) (c1 : Cal P w K mg base 1 "is_name" ["thing"] spIsNameT) : FnOk P w K mg base (CXr P w) 2 f fd ["thing"] (spRef C isNameD) := by
  refine F.okR scNeedName (fun vs H Q E h => ?_) (fun cdv A outer s H vs Q E hr h ok => ?_)
  · obtain ⟨v, d, rfl, _⟩ := h; rfl
  · obtain ⟨v, d, rfl, hv, hs, k1, k2⟩ := h
    refine ⟨_, pss_one (ps_if (pt_not (pt_val (pe_cal c1 hr rfl (pa_cons (pv 0) pa_nil)))) (pss_one (ps_raise ok rfl O (by rfl) (pa_cons pe_str pa_nil))) pss_nil), ?_⟩
    refine ⟨_, rfl, v, d, rfl, hv, hs, fun H' sm => ⟨_, rfl, ?_⟩⟩
    cases e : isNameD d with
    | true => exact iteF (k1 e H' sm)
    | false => exact iteT ⟨by show 1 ≤ sizeLine; decide, k2 e H' sm⟩
structure NeedsR (P : Program) (w : World) (K : PySem.W.Frag) (mg : Str → Option Value) (base : Heap) (nb no nn : Addr) : Prop where
  bk : CalR P w K mg base 3 "need_book" ["thing"] (spRef nb isBookD)
  od : CalR P w K mg base 3 "need_order" ["thing"] (spRef no isOrderD)
  nm : CalR P w K mg base 2 "need_name" ["thing"] (spRef nn isNameD)
  rows : Cal P w K mg base 3 "counted_rows" ["book", "order"] spRows
end
end Kn
end
section
set_option Elab.async false
set_option linter.all false
set_option maxRecDepth 100000
set_option maxHeartbeats 1000000
namespace Kn
open PySem L2
def errOk (K : PySem.W.Frag) (cs : List Addr) (L : Addr) : Bool :=
  PySem.W.excIn K L veMro "ValueError.__new__" && cs.all (fun c => PySem.W.excIn K c veMro "ValueError.__new__" && subOf K c L && (PySem.W.findIn K (.ref c) "__getattribute__" == some (some (.builtin "BaseException.__getattribute__"))) && (PySem.W.findIn K (.ref c) "__getattr__" == some none)
    && (PySem.W.findIn K (.ref c) "__class__" == some (some (.builtin "object.__class__"))) && (PySem.W.mroIn K c (.type "object") == some true) && (PySem.W.kitOne K (.ref c) (.type "ValueError") == some true))
  && (List.range cs.length).all fun i => (List.range cs.length).all fun j => PySem.W.kitOne K (.ref (cs.getD i 0)) (.ref (cs.getD j 0)) == some (decide (j = i))
def errNames : List Str := ["NoBook", "NoOrder", "NoName", "NoWish", "NoNumber", "NotMade", "TooShort", "Nothing"]
structure ErrX (K : PySem.W.Frag) (mg : Str → Option Value) (cs : List Addr) (L : Addr) : Prop where
  len : cs.length = 8
  like : XCls K mg "LikeError" L
  at_ : ∀ i, i < 8 → XCls K mg (errNames.getD i ⟨#[]⟩) (cs.getD i 0) ∧ XLook K (cs.getD i 0) ∧ subOf K (cs.getD i 0) L = true ∧ PySem.W.kitOne K (.ref (cs.getD i 0)) (.type "ValueError") = some true
  kit : ∀ i j, i < 8 → j < 8 → PySem.W.kitOne K (.ref (cs.getD i 0)) (.ref (cs.getD j 0)) = some (decide (j = i))
theorem errs_mk {K : PySem.W.Frag} {mg : Str → Option Value} {c0 c1 c2 c3 c4 c5 c6 c7 L : Addr} (b0 : mg "NoBook" = some (.ref c0)) (b1 : mg "NoOrder" = some (.ref c1)) (b2 : mg "NoName" = some (.ref c2)) (b3 : mg "NoWish" = some (.ref c3)) (b4 : mg "NoNumber" = some (.ref c4))
    (b5 : mg "NotMade" = some (.ref c5)) (b6 : mg "TooShort" = some (.ref c6)) (b7 : mg "Nothing" = some (.ref c7)) (bL : mg "LikeError" = some (.ref L)) (h : errOk K [c0, c1, c2, c3, c4, c5, c6, c7] L = true) : ErrX K mg [c0, c1, c2, c3, c4, c5, c6, c7] L := by
  unfold errOk at h
  simp only [Bool.and_eq_true, List.all_eq_true, beq_iff_eq] at h
  obtain ⟨⟨hL, hc⟩, hk⟩ := h
  refine ⟨rfl, ⟨bL, hL⟩, fun i hi => ?_, fun i j hi hj => hk i (List.mem_range.mpr hi) j (List.mem_range.mpr hj)⟩
  have hm : ([c0, c1, c2, c3, c4, c5, c6, c7].getD i 0) ∈ [c0, c1, c2, c3, c4, c5, c6, c7] := by
    have hi' : i < [c0, c1, c2, c3, c4, c5, c6, c7].length := hi
    rw [List.getD_eq_getElem?_getD, List.getElem?_eq_getElem hi']
    exact List.getElem_mem hi'
  obtain ⟨⟨⟨⟨⟨⟨h1, h2⟩, h3⟩, h4⟩, h5⟩, h6⟩, h7⟩ := hc _ hm
  refine ⟨⟨?_, h1⟩, ⟨h1, h3, h4, h5, h6⟩, h2, h7⟩
  match i, hi with
  | 0, _ => exact b0
  | 1, _ => exact b1
  | 2, _ => exact b2
  | 3, _ => exact b3
  | 4, _ => exact b4
  | 5, _ => exact b5
  | 6, _ => exact b6
  | 7, _ => exact b7
theorem errs_top {K : PySem.W.Frag} {c0 c1 c2 c3 c4 c5 c6 c7 L : Addr} (b0 : PySem.W.nsIn K mainGlobals "NoBook" = some (some (.ref c0))) (b1 : PySem.W.nsIn K mainGlobals "NoOrder" = some (some (.ref c1))) (b2 : PySem.W.nsIn K mainGlobals "NoName" = some (some (.ref c2))) (b3 : PySem.W.nsIn K mainGlobals "NoWish" = some (some (.ref c3)))
    (b4 : PySem.W.nsIn K mainGlobals "NoNumber" = some (some (.ref c4))) (b5 : PySem.W.nsIn K mainGlobals "NotMade" = some (some (.ref c5))) (b6 : PySem.W.nsIn K mainGlobals "TooShort" = some (some (.ref c6))) (b7 : PySem.W.nsIn K mainGlobals "Nothing" = some (some (.ref c7))) (bL : PySem.W.nsIn K mainGlobals "LikeError" = some (some (.ref L)))
    (h : errOk K [c0, c1, c2, c3, c4, c5, c6, c7] L = true) : ∃ cs L, ∀ (h : Heap) (mg : Str → Option Value), K.In h → h.Ns mainGlobals mg → ErrX K mg cs L :=
  ⟨_, _, fun hp mg X G => errs_mk (PySem.W.mg_of X G b0) (PySem.W.mg_of X G b1) (PySem.W.mg_of X G b2) (PySem.W.mg_of X G b3) (PySem.W.mg_of X G b4) (PySem.W.mg_of X G b5) (PySem.W.mg_of X G b6) (PySem.W.mg_of X G b7) (PySem.W.mg_of X G bL) h⟩
section
variable {P : Program} {w : World} {K : PySem.W.Frag} {mg : Str → Option Value} {base : Heap}
def RefT (H : Hp) (p : Addr) (j : Nat) : Prop := H p = some (.tup [.str "refused", .int j])
def spRefused (cs : List Addr) : Sp := fun vs H Q _ => ∃ (e : Addr) (j : Nat), vs = [.ref e] ∧ j < 8 ∧ H e = some (XO e (cs.getD j 0)) ∧ ∀ p H', Same H H' → H p = none → RefT H' p j → Q (.ref p) H'
abbrev sRefused : Stmt := top 52
theorem scRefused : FnScope ["_law_e", "_law_flags"] ["_law_e"] (defScope sRefused) := ⟨rfl, rfl, rfl, by decide +kernel, rfl, by decide +kernel, by decide +kernel⟩
structure BltE (mg : Str → Option Value) : Prop where
  isinstance : mg "isinstance" = none
  ve : mg "ValueError" = none
def flags (j : Nat) : List Bool := [decide (0 = j), decide (1 = j), decide (2 = j), decide (3 = j), decide (4 = j), decide (5 = j), decide (6 = j), decide (7 = j)]
theorem flags_ok {j : Nat} (h : j < 8) : (flags j).count true = 1 ∧ (flags j)[j]? = some true ∧ ∀ i, i < j → (flags j)[i]? ≠ some true := by
  have all : ∀ d : _root_.Fin 8, (flags d.val).count true = 1 ∧ (flags d.val)[d.val]? = some true ∧ ∀ i : _root_.Fin 8, i < d → (flags d.val)[i.val]? ≠ some true := by decide +kernel
  obtain ⟨a, b, c⟩ := all ⟨j, h⟩
  exact ⟨a, b, fun i hi => c ⟨i, by omega⟩ hi⟩
theorem ok_refused {f : Addr} {fd : FuncData} {cs : List Addr} {L : Addr} (F : Fun K "_law_refused" "_law_refused" sRefused f fd) (B : BltE mg) (E : ErrX K mg cs L) : FnB P w K mg base CX0 1 f fd ["_law_e"] (spRefused cs) := by
  have g : ∀ i (hi : i < 8), mg (errNames.getD i ⟨#[]⟩) = some (.ref (cs.getD i 0)) := fun i hi => (E.at_ i hi).1.bound
  refine F.okB scRefused (fun vs H Q E h => ?_) (fun cdv A outer s H vs Q E' hr h => ?_)
  · obtain ⟨e, j, rfl, _⟩ := h; rfl
  · obtain ⟨e, j, rfl, hj, he, k⟩ := h
    have nd := scRefused.nd
    refine ⟨_, pss_cons (ps_set (i := 1) nd rfl (Or.inl rfl) (pe_lst (pa_cons (pe_callB call_isinstX (by rfl) B.isinstance PyProof.Rows.boot_isinstance (pa_cons (pv 0) (pa_cons (pe_glob (v := .ref (cs.getD 0 0)) (by rfl) (g 0 (by decide)) rfl) pa_nil)))
        (pa_cons (pe_callB call_isinstX (by rfl) B.isinstance PyProof.Rows.boot_isinstance (pa_cons (pv 0) (pa_cons (pe_glob (v := .ref (cs.getD 1 0)) (by rfl) (g 1 (by decide)) rfl) pa_nil)))
        (pa_cons (pe_callB call_isinstX (by rfl) B.isinstance PyProof.Rows.boot_isinstance (pa_cons (pv 0) (pa_cons (pe_glob (v := .ref (cs.getD 2 0)) (by rfl) (g 2 (by decide)) rfl) pa_nil))) pa_nil)))))
      (pss_cons (ps_set (i := 1) nd rfl (Or.inl rfl) (pe_op op_cat (pv 1) (pe_lst (pa_cons (pe_callB call_isinstX (by rfl) B.isinstance PyProof.Rows.boot_isinstance (pa_cons (pv 0) (pa_cons (pe_glob (v := .ref (cs.getD 3 0)) (by rfl) (g 3 (by decide)) rfl) pa_nil)))
        (pa_cons (pe_callB call_isinstX (by rfl) B.isinstance PyProof.Rows.boot_isinstance (pa_cons (pv 0) (pa_cons (pe_glob (v := .ref (cs.getD 4 0)) (by rfl) (g 4 (by decide)) rfl) pa_nil)))
        (pa_cons (pe_callB call_isinstX (by rfl) B.isinstance PyProof.Rows.boot_isinstance (pa_cons (pv 0) (pa_cons (pe_glob (v := .ref (cs.getD 5 0)) (by rfl) (g 5 (by decide)) rfl) pa_nil))) pa_nil))))))
      (pss_cons (ps_set (i := 1) nd rfl (Or.inl rfl) (pe_op op_cat (pv 1) (pe_lst (pa_cons (pe_callB call_isinstX (by rfl) B.isinstance PyProof.Rows.boot_isinstance (pa_cons (pv 0) (pa_cons (pe_glob (v := .ref (cs.getD 6 0)) (by rfl) (g 6 (by decide)) rfl) pa_nil)))
        (pa_cons (pe_callB call_isinstX (by rfl) B.isinstance PyProof.Rows.boot_isinstance (pa_cons (pv 0) (pa_cons (pe_glob (v := .ref (cs.getD 7 0)) (by rfl) (g 7 (by decide)) rfl) pa_nil))) pa_nil)))))
      (pss_cons (ps_if (PW.pt (pw_or (pt_cmpR op_ne (pe_bm PySem.F.plainAttrs_list PySem.F.slot_list_count PySem.F.type_list_count mt_countB (pv 1) (pa_cons pe_bl pa_nil)) pe_int (nomark _))
          (pw_or1 (pt_not (pt_val (pe_callB call_isinstX (by rfl) B.isinstance PyProof.Rows.boot_isinstance (pa_cons (pv 0) (pa_cons (pe_bltn (v := .ty "ValueError") (by rfl) B.ve PyProof.Rows.Boot.«ValueError» rfl) pa_nil)))))))) (pss_one (ps_ret (pe_tup (pa_cons pe_str (pa_cons (pe_un un_neg pe_int) pa_nil))))) pss_nil)
      (pss_one (ps_ret (pe_tup (pa_cons pe_str (pa_cons (pe_bm PySem.F.plainAttrs_list PySem.F.slot_list_index PySem.F.type_list_index mt_indexB (pv 1) (pa_cons pe_bl pa_nil)) pa_nil)))))))), ?_⟩
    have kit : ∀ i, i < 8 → PySem.W.kitOne K (.ref (cs.getD j 0)) (.ref (cs.getD i 0)) = some (decide (i = j)) := fun i hi => E.kit j i hj hi
    have lk := (E.at_ j hj).2.1
    refine ⟨_, rfl, e, _, _, _, rfl, he, lk, .inl ⟨_, rfl, kit 0 (by decide)⟩, _, rfl, e, _, _, _, rfl, he, lk, .inl ⟨_, rfl, kit 1 (by decide)⟩, _, rfl, e, _, _, _, rfl, he, lk, .inl ⟨_, rfl, kit 2 (by decide)⟩, ?_⟩
    refine ⟨by show 3 ≤ sizeLine; decide, fun p1 hp1 => ?_⟩
    have t1 := Same.upd1 (o := .lst [V.bl (decide (0 = j)), V.bl (decide (1 = j)), V.bl (decide (2 = j))]) hp1
    refine ⟨_, rfl, _, rfl, e, _, _, _, rfl, t1 _ _ he, lk, .inl ⟨_, rfl, kit 3 (by decide)⟩, _, rfl, e, _, _, _, rfl, t1 _ _ he, lk, .inl ⟨_, rfl, kit 4 (by decide)⟩, _, rfl, e, _, _, _, rfl, t1 _ _ he, lk, .inl ⟨_, rfl, kit 5 (by decide)⟩, ?_⟩
    refine ⟨by show 3 ≤ sizeLine; decide, fun p2 hp2 => ?_⟩
    have t2 := Same.upd1 (o := .lst [V.bl (decide (3 = j)), V.bl (decide (4 = j)), V.bl (decide (5 = j))]) hp2
    refine ⟨p1, p2, _, _, rfl, rfl, t2 _ _ upd_same, upd_same, by show 6 ≤ sizeLine; decide, fun p3 hp3 => ?_⟩
    have t3 := Same.upd1 (o := .lst ([V.bl (decide (0 = j)), V.bl (decide (1 = j)), V.bl (decide (2 = j))] ++ [V.bl (decide (3 = j)), V.bl (decide (4 = j)), V.bl (decide (5 = j))])) hp3
    have s3 := (t1.trans t2).trans t3
    refine ⟨_, rfl, _, rfl, e, _, _, _, rfl, s3 _ _ he, lk, .inl ⟨_, rfl, kit 6 (by decide)⟩, _, rfl, e, _, _, _, rfl, s3 _ _ he, lk, .inl ⟨_, rfl, kit 7 (by decide)⟩, ?_⟩
    refine ⟨by show 2 ≤ sizeLine; decide, fun p4 hp4 => ?_⟩
    have t4 := Same.upd1 (o := .lst [V.bl (decide (6 = j)), V.bl (decide (7 = j))]) hp4
    refine ⟨p3, p4, _, _, rfl, rfl, t4 _ _ upd_same, upd_same, by show 8 ≤ sizeLine; decide, fun p5 hp5 => ?_⟩
    have t5 := Same.upd1 (o := .lst ((flags j).map V.bl)) hp5
    have s5 := (s3.trans t4).trans t5
    obtain ⟨f1, f2, f3⟩ := flags_ok hj
    have h5 : ∀ {Hx : Hp}, upd Hx p5 (.lst ([V.bl (decide (0 = j)), V.bl (decide (1 = j)), V.bl (decide (2 = j))] ++ [V.bl (decide (3 = j)), V.bl (decide (4 = j)), V.bl (decide (5 = j))] ++ [V.bl (decide (6 = j)), V.bl (decide (7 = j))])) p5 = some (.lst ((flags j).map V.bl)) := fun {Hx} => by rw [upd_same]; rfl
    refine ⟨_, rfl, .inl ⟨rfl, _, .of h5⟩, p5, flags j, true, rfl, rfl, h5, rfl, _, rfl, iteNS (by rw [f1]; rfl) ?_⟩
    refine ⟨_, rfl, e, _, _, true, rfl, s5 _ _ he, lk, .inr ⟨_, rfl, (E.at_ j hj).2.2.2⟩, true, rfl, iteF ?_⟩
    refine ⟨_, rfl, .inl ⟨rfl, _, .of h5⟩, p5, flags j, true, j, rfl, rfl, h5, f2, f3, by omega, by show 2 ≤ sizeLine; decide, fun p6 hp6 => ?_⟩
    exact k p6 _ (s5.upd_new (s5.free hp6)) (s5.free hp6) upd_same
end
end Kn
end
section
set_option Elab.async false
set_option linter.all false
set_option maxRecDepth 100000
set_option maxHeartbeats 1000000
namespace Kn
open PySem L2
section
variable {P : Program} {w : World} {K : PySem.W.Frag} {mg : Str → Option Value} {base : Heap}
abbrev sCounts : Stmt := top 46
theorem scCounts : FnScope ["_law_book_here", "_law_order", "_law_found", "_law_name_here", "_law_size", "_law_end", "_law_letter"] ["_law_book_here", "_law_order"] (defScope sCounts) := ⟨rfl, rfl, rfl, by decide +kernel, rfl, by decide +kernel, by decide +kernel⟩
theorem cut_min (t : S) (o n : Nat) (ho : 1 ≤ o) (hn : 1 ≤ n) (hl : t.length = n) : cutS (tx t) (some (0 - (if (n : Int) < (o : Int) then (n : Int) else (o : Int)))) none = tx (endOf t o) := by
  by_cases h : n < o
  · rw [if_pos (by omega)]
    have e : (0 : Int) - (n : Int) = -(n : Int) := by omega
    rw [e, cut_end t n hn, endOf_short (by omega), endOf_short (by omega)]
  · rw [if_neg (by omega)]
    have e : (0 : Int) - (o : Int) = -(o : Int) := by omega
    rw [e, cut_end t o ho]
theorem pairs1_get {o : Nat} {t : S} {j : Nat} (h : j < t.length + 1) : (pairs1 o t)[j]? = some (endOf (t.take j) o, (t.drop j).take 1) := by
  unfold pairs1
  rw [List.getElem?_map, List.getElem?_range h]; rfl
theorem pairs1_len' (o : Nat) (t : S) : (pairs1 o t).length = t.length + 1 := by unfold pairs1; rw [List.length_map, List.length_range]
theorem ok_counts {f : Addr} {fd : FuncData} (F : Fun K "_law_counts" "_law_counts" sCounts f fd) (B : Blt mg) : FnOk P w K mg base CX0 1 f fd ["_law_book_here", "_law_order"] spRows := by
  refine F.ok scCounts (fun vs H Q E h => ?_) (fun cdv A outer s H vs Q E hr h => ?_)
  · obtain ⟨a, bk, o, rfl, _⟩ := h; rfl
  · obtain ⟨a, bk, o, rfl, ha, hb1, hb2, ho, k⟩ := h
    have hu := hu_of hr
    have nd := scCounts.nd
    refine ⟨_, pss_cons (ps_set (i := 2) nd rfl (Or.inl rfl) pe_dnewK)
      (pss_cons (ps_for PassesOwn.never rfl (pi_tup (pv 0)) (pg_name (i := 3) nd rfl (Or.inl rfl))
        (pss_one (ps_for PassesOwn.never rfl (pi_range1 rfl B.range (pa_cons (pe_op op_add (pe_callB call_len_str (by rfl) B.len PySem.boot_len (pa_cons (pv 3) pa_nil)) pe_int) pa_nil)) (pg_name (i := 4) nd rfl (Or.inl rfl))
          (pss_cons (ps_set (i := 5) nd rfl (Or.inl rfl) (pe_ifExp (pt_cmpR op_gt (pv 4) pe_int (nomark _)) (pe_sliceS (pe_sliceS (pv 3) po_none (po_some (pv 4))) (po_some (pe_op op_sub pe_int (pe_callB (call_min2 rfl) (by rfl) B.min PyProof.Rows.boot_min (pa_cons (pv 1) (pa_cons (pv 4) pa_nil))))) po_none) pe_str))
          (pss_cons (ps_set (i := 6) nd rfl (Or.inl rfl) (pe_sliceS (pv 3) (po_some (pv 4)) (po_some (pe_op op_add (pv 4) pe_int))))
          (pss_cons (ps_if (pt_cmp (pc_dnotin hu (pv 5) (pv 2))) (pss_one (ps_dput hu (pv 2) (pv 5) pe_dnewK rfl)) pss_nil)
          (pss_one (ps_dput hu (pe_dget hu (pv 2) (pv 5) (fun _ _ => rfl)) (pv 6) (pe_op op_add (pe_dget2 hu (pe_dget hu (pv 2) (pv 5) (fun _ _ => rfl)) (pv 6) pe_int ⟨rfl, rfl, rfl, rfl⟩) pe_int) rfl))))))))
      (pss_one (ps_ret (pv 2)))), ?_⟩
    intro d hd
    have s1 : Same H (upd H d (.dK [])) := Same.upd1 hd
    refine ⟨_, rfl, a, rfl, ⟨_, .of (s1 _ _ ha)⟩, ?_⟩
    refine for_known (known_tup K a (bkV bk)) (fun i σ H' => (∃ x y z u : Option V, σ = [some (.ref a), some (.int o), some (.ref d), x, y, z, u]) ∧ Same H H' ∧ ∃ ra, RA H H' d (pairsB o (bk.take i)) ra)
      ⟨⟨_, _, _, _, rfl⟩, s1, [], ⟨rfl, upd_same, by simp, by simp, by simp⟩⟩ (fun i σ H' _ h => .of (h.2.1 _ _ ha)) ?_ ?_
    · rintro i x σ H' Nx hN hx ⟨⟨x1, x2, x3, x4, rfl⟩, sm, ra, R⟩
      rw [bkV, List.getElem?_map] at hx
      cases e : bk[i]? with
      | none => rw [e] at hx; cases hx
      | some nm =>
      rw [e] at hx
      have hy2 : x = sv nm := (Option.some.inj hx).symm
      subst hy2
      have hnm := hb2 nm (List.mem_of_getElem? e)
      have hi : i < bk.length := (List.getElem?_eq_some_iff.mp e).1
      have etake : bk.take (i + 1) = bk.take i ++ [nm] := by
        rw [List.take_succ_eq_append_getElem hi]
        have := (List.getElem?_eq_some_iff.mp e).2
        rw [this]
      have epairs : pairsB o (bk.take (i + 1)) = pairsB o (bk.take i) ++ pairs1 o nm := by
        rw [etake, pairsB_append]; simp [pairsB]
      have hplen : ((pairsB o (bk.take (i + 1))).length : Int) ≤ 100 := by
        rw [pairsB_length]
        have go : ∀ l : List S, (∀ x ∈ l, x.length ≤ 8) → (l.map fun x => (x.length : Int) + 1).sum ≤ 9 * (l.length : Int) := by
          intro l
          induction l with
          | nil => intro _; simp
          | cons x r ih =>
            intro hl
            have h1 := hl x (List.mem_cons_self ..)
            have h2 := ih fun y hy => hl y (List.mem_cons_of_mem _ hy)
            rw [List.map_cons, List.sum_cons, List.length_cons]
            have : ((r.length + 1 : Nat) : Int) = (r.length : Int) + 1 := rfl
            omega
        have := go (bk.take (i + 1)) fun x hx => hb2 x (List.mem_of_mem_take hx)
        have h3 : (bk.take (i + 1)).length ≤ 8 := by rw [List.length_take]; omega
        omega
      refine ⟨_, rfl, tx nm, rfl, by rw [tx_len, sizeLine_eq]; omega, _, _, rfl, rfl, _, rfl, by rw [tx_len]; omega, by rw [tx_len]; omega, ?_⟩
      have hnn : (((tx nm).length : Int) + 1).toNat = nm.length + 1 := by rw [tx_len]; omega
      refine for_known (known_range 0 _) (fun j σ H2 => (∃ y z u : Option V, σ = [some (.ref a), some (.int o), some (.ref d), some (sv nm), y, z, u]) ∧ Same H H2 ∧ ∃ ra, RA H H2 d (pairsB o (bk.take i) ++ (pairs1 o nm).take j) ra)
        ⟨⟨_, _, _, rfl⟩, sm, ra, by simpa using R⟩ (fun _ _ _ _ _ => trivial) ?_ ?_
      · rintro j x σ H2 Nx2 hN2 hx2 ⟨⟨y, z, u, rfl⟩, sm2, ra2, R2⟩
        rw [hnn] at hx2
        obtain ⟨hj, rfl⟩ := range_item hx2
        have ep := pairs1_get (o := o) hj
        generalize hp : ((endOf (nm.take j) o, (nm.drop j).take 1) : S × S) = p at ep
        have hp1 : endOf (nm.take j) o = p.1 := by rw [← hp]
        have hp2 : (nm.drop j).take 1 = p.2 := by rw [← hp]
        have hj' : j < (pairs1 o nm).length := by rw [pairs1_len']; exact hj
        have etk : pairsB o (bk.take i) ++ (pairs1 o nm).take (j + 1) = (pairsB o (bk.take i) ++ (pairs1 o nm).take j) ++ [p] := by
          rw [List.take_succ_eq_append_getElem hj', (List.getElem?_eq_some_iff.mp ep).2, List.append_assoc]
        generalize hps : pairsB o (bk.take i) ++ (pairs1 o nm).take j = ps at R2 etk
        have hpl : ps.length ≤ 100 := by
          have h1 : ps.length ≤ (pairsB o (bk.take (i + 1))).length := by
            rw [← hps, epairs, List.length_append, List.length_append, List.length_take]; omega
          omega
        have hral : ra2.length ≤ 100 := by
          have h1 := (rows_len ps).1
          rw [← R2.rows, List.length_map] at h1
          omega
        refine ⟨_, rfl, _, _, rfl, rfl, _, rfl, ?_⟩
        refine' (fun (cont : ∀ q : V, q = sv p.1 → (_ : V → Prop) q) => ?main) ?cont
        case main =>
          by_cases h0 : 0 < j
          · refine iteD (by omega) ?_
            refine ⟨_, rfl, _, rfl, _, rfl, tx nm, rfl, by rw [tx_len, sizeLine_eq]; omega, _, rfl, _, rfl, _, _, rfl, _, _, rfl, rfl, _, rfl, _, rfl, ?_, ?_⟩
            · rw [cut_to, tx_len, sizeLine_eq, List.length_take]; omega
            · have ec : cutS (cutS (tx nm) none (some (j : Int))) (some (0 - (if (j : Int) < (o : Int) then (j : Int) else (o : Int)))) none = tx p.1 := by
                rw [cut_to, cut_min (nm.take j) o j ho h0 (by rw [List.length_take]; omega), hp1]
              have ev : V.str (cutS (cutS (tx nm) none (some (j : Int))) (some (0 - (if (j : Int) < (o : Int) then (j : Int) else (o : Int)))) none) = sv p.1 := congrArg V.str ec
              revert ev
              generalize V.str (cutS (cutS (tx nm) none (some (j : Int))) (some (0 - (if (j : Int) < (o : Int) then (j : Int) else (o : Int)))) none) = q
              intro ev
              exact cont q ev
          · have hj0 : j = 0 := by omega
            subst hj0
            refine iteDF (by omega) ?_
            have e0 : p.1 = [] := by rw [← hp1]; simp [endOf]
            have ev : V.str "" = sv p.1 := by rw [e0]; rfl
            revert ev
            generalize V.str "" = q
            intro ev
            exact cont q ev
        case cont =>
          intro q hq
          subst hq
          refine ⟨_, rfl, _, rfl, _, rfl, _, rfl, _, _, rfl, rfl, _, rfl, tx nm, rfl, by rw [tx_len, sizeLine_eq]; omega, ?_⟩
          have ecut : cutS (tx nm) (some (j : Int)) (some ((j : Int) + 1)) = tx p.2 := by rw [cut_one, hp2]
          rw [ecut]
          refine ⟨_, rfl, _, rfl, d, _, rfl, DGet.k (k := Sum.inr (tx p.1)) R2.top, _, rfl, ?_⟩
          rw [val_enc]
          have fin : ∀ (ad : Addr) (row : List (S × Int)) (Hx : Hp) (enc : List (Key × V)), Hx d = some (.dK enc) → valV enc (Sum.inr (tx p.1)) = some (.ref ad) → Hx ad = some (.dK (rowV row)) → (row.map (·.1)).Nodup → row.length ≤ 100 → (∀ H4, H4 = upd Hx ad (.dK (rowV (bump row p.2))) → Nx2 [some (.ref a), some (.int o), some (.ref d), some (sv nm), some (.int j), some (sv p.1), some (sv p.2)] H4) →
              sDPut (tDGet (tVar 2) (tVar 5)) (tVar 6) (tOp (rI0 fun i j => V.int (i + j)) (tDGet2 (tDGet (tVar 2) (tVar 5)) (tVar 6) (tC (.int 0))) (tC (.int 1))) { nx := Nx2, rt := Q, bk := fun _ _ => False, ct := fun _ _ => False } [some (.ref a), some (.int o), some (.ref d), some (sv nm), some (.int j), some (sv p.1), some (sv p.2)] Hx := by
            intro ad row Hx enc htop hval hrow hnd hrl hq
            have dg : DGet Hx d (sv p.1) (some (.ref ad)) := by
              have := DGet.k (k := Sum.inr (tx p.1)) htop
              rw [hval] at this
              exact this
            refine ⟨_, rfl, _, rfl, d, _, rfl, dg, ad, rfl, .inl ⟨_, .inl hrow⟩, _, rfl, _, DGet.k (k := Sum.inr (tx p.2)) hrow, (getA row p.2).getD 0, 1, ?_, rfl, ?_⟩
            · rw [val_enc]
              cases getA row p.2 <;> rfl
            · refine ⟨_, rfl, _, rfl, d, _, rfl, dg, _, rfl, ad, _, rfl, DPut.k (k := Sum.inr (tx p.2)) hrow (by rw [encD_len, sizeLine_eq]; omega), hq _ ?_⟩
              rw [put_enc V.int row p.2 _ hnd]
              rfl
          cases g : getA ra2 p.1 with
          | some v =>
            obtain ⟨r1, r2, r3, r4, r5⟩ := row_of R2 g
            refine iteF ?_
            refine fin v.1 v.2 H2 _ R2.top (by rw [val_enc, g]; rfl) r1 r2 (by omega) fun H4 e4 => ?_
            have RR : RA H H4 d (ps ++ [p]) (putA ra2 p.1 (v.1, bump v.2 p.2)) := by
              refine R2.step p v.2 (by rw [g]; rfl) (fun v' hv' => by rw [g] at hv'; rw [Option.some.inj hv']) (fun hn => by rw [g] at hn; cases hn) (by rw [e4, upd_same]) ?_ fun r hr' hne => ?_
              · rw [e4, upd_ne r5.symm, R2.top]
                have := encD_same (fun v : Addr × List (S × Int) => V.ref v.1) ra2 p.1 (v.1, bump v.2 p.2) v g rfl
                rw [this]
              · rw [e4, upd_ne hne]; exact R2.row r hr'
            refine hN2 _ _ ⟨⟨_, _, _, rfl⟩, ?_, _, by rw [etk]; exact RR⟩
            rw [e4]
            exact sm2.upd_new r4
          | none =>
            refine iteT ?_
            intro e0 he0
            have he0H : H e0 = none := sm2.free he0
            have hde : d ≠ e0 := ne_of_none R2.top he0
            have s3 : Same H2 (upd H2 e0 (.dK [])) := Same.upd1 he0
            have hx3 : upd H2 e0 (.dK []) d = some (.dK (encD (fun v : Addr × List (S × Int) => V.ref v.1) ra2)) := s3 _ _ R2.top
            have hre : ∀ r ∈ ra2, r.2.1 ≠ e0 := fun r hr' => ne_of_none (R2.row r hr') he0
            refine ⟨_, rfl, _, rfl, d, _, rfl, DPut.k (k := Sum.inr (tx p.1)) hx3 (by rw [encD_len, sizeLine_eq]; omega), ?_⟩
            have hp2' := put_enc (fun v : Addr × List (S × Int) => V.ref v.1) ra2 p.1 (e0, []) (keys_nd R2)
            have hHx : upd (upd H2 e0 (.dK [])) d (.dK (putK (encD (fun v : Addr × List (S × Int) => V.ref v.1) ra2) (Sum.inr (tx p.1)) (.ref e0))) e0 = some (.dK (rowV [])) := by
              rw [upd_ne hde.symm, upd_same]; rfl
            refine fin e0 [] _ _ upd_same (by rw [valV_put, if_pos rfl]) hHx (by simp) (by simp) fun H4 e4 => ?_
            have RR : RA H H4 d (ps ++ [p]) (putA ra2 p.1 (e0, bump [] p.2)) := by
              refine R2.step p [] (by rw [g]; rfl) (fun v' hv' => by rw [g] at hv'; cases hv') (fun _ => ⟨he0H, hde.symm, fun hm => ?_⟩) (by rw [e4, upd_same]) ?_ fun r hr' hne => ?_
              · obtain ⟨r, hr', e⟩ := List.mem_map.mp hm
                exact hre r hr' e
              · rw [e4, upd_ne hde, upd_same, hp2']
                congr 2
                have hk : p.1 ∉ ra2.map (·.1) := getA_none.mp g
                rw [putA_new _ _ _ hk, putA_new _ _ _ hk]
                unfold encD encK
                rw [List.map_append, List.map_append, List.map_append, List.map_append]
                rfl
              · rw [e4, upd_ne hne, upd_ne (R2.new r hr').2]; exact s3 _ _ (R2.row r hr')
            refine hN2 _ _ ⟨⟨_, _, _, rfl⟩, ?_, _, by rw [etk]; exact RR⟩
            rw [e4]
            exact ((sm2.trans s3).upd_new hd).upd_new he0H
      · rintro σ H2 ⟨⟨y, z, u, rfl⟩, sm2, ra2, R2⟩
        refine hN _ _ ⟨⟨_, _, _, _, rfl⟩, sm2, ra2, ?_⟩
        rw [epairs]
        rw [List.length_map, List.length_range, hnn, ← pairs1_len' o nm, List.take_length] at R2
        exact R2
    · rintro σ H' ⟨⟨x1, x2, x3, x4, rfl⟩, sm, ra, R⟩
      refine ⟨_, rfl, k d H' sm hd ⟨ra, ?_, R.top, R.row⟩⟩
      rw [R.rows]
      have : (bkV bk).length = bk.length := by simp [bkV]
      rw [this, List.take_length]
abbrev sRowL : Stmt := top 47
theorem scRowL : FnScope ["_law_book_here", "_law_order", "_law_text", "_law_end"] ["_law_book_here", "_law_order", "_law_text"] (defScope sRowL) := ⟨rfl, rfl, rfl, by decide +kernel, rfl, by decide +kernel, by decide +kernel⟩
def spRowL : Sp := fun vs H Q _ => ∃ (a : Addr) (bk : List S) (o : Nat) (x : S), vs = [.ref a, .int o, sv x] ∧ H a = some (.tup (bkV bk)) ∧ bk.length ≤ 8 ∧ (∀ y ∈ bk, y.length ≤ 8) ∧ 1 ≤ o ∧ x.length ≤ 64 ∧ ∀ ra H', Same H H' → H' ra = some (.dK (rowV (rowOf (pairsB o bk) (endOf x o)))) → Q (.ref ra) H'
theorem ok_rowL {f : Addr} {fd : FuncData} (F : Fun K "_law_row" "_law_row" sRowL f fd) (B : Blt mg) (c1 : Cal P w K mg base 1 "_law_counts" ["_law_book_here", "_law_order"] spRows) : FnOk P w K mg base CX0 2 f fd ["_law_book_here", "_law_order", "_law_text"] spRowL := by
  refine F.ok scRowL (fun vs H Q E h => ?_) (fun cdv A outer s H vs Q E hr h => ?_)
  · obtain ⟨a, bk, o, x, rfl, _⟩ := h; rfl
  · obtain ⟨a, bk, o, x, rfl, ha, hb1, hb2, ho, hx, k⟩ := h
    have hu := hu_of hr
    have nd := scRowL.nd
    refine ⟨_, pss_cons (ps_set (i := 3) nd rfl (Or.inl rfl) (pe_ifExp (pt_cmpR op_ne (pv 2) pe_str (nomark _)) (pe_sliceS (pv 2) (po_some (pe_op op_sub pe_int (pe_callB (call_min2 rfl) (by rfl) B.min PyProof.Rows.boot_min (pa_cons (pv 1) (pa_cons (pe_callB call_len_str (by rfl) B.len PySem.boot_len (pa_cons (pv 2) pa_nil)) pa_nil))))) po_none) pe_str))
      (pss_one (ps_ret (pe_dget2 hu (pe_cal c1 hr rfl (pa_cons (pv 0) (pa_cons (pv 1) pa_nil))) (pv 3) pe_dnewK ⟨rfl, rfl, rfl, rfl⟩))), ?_⟩
    refine ⟨_, rfl, rfl, _, rfl, ?_⟩
    refine' (fun (cont : ∀ q : V, q = sv (endOf x o) → (_ : V → Prop) q) => ?main) ?cont
    case main =>
      by_cases h0 : x = []
      · subst h0
        refine iteNS rfl ?_
        have ev : V.str "" = sv (endOf [] o) := by simp [endOf]; rfl
        revert ev
        generalize V.str "" = q
        intro ev
        exact cont q ev
      · have hne : ¬ V.str (tx x) = V.str "" := fun z => h0 (tx_inj (V.str.inj z))
        have hlen : 1 ≤ x.length := by
          have : x.length ≠ 0 := fun z => h0 (List.length_eq_zero_iff.mp z)
          omega
        refine ite_nn hne ?_
        refine ⟨_, rfl, _, rfl, _, rfl, tx x, rfl, by rw [tx_len, sizeLine_eq]; omega, _, _, rfl, _, _, rfl, rfl, _, rfl, tx x, rfl, by rw [tx_len, sizeLine_eq]; omega, ?_⟩
        have ev : V.str (cutS (tx x) (some (0 - (if ((tx x).length : Int) < (o : Int) then ((tx x).length : Int) else (o : Int)))) none) = sv (endOf x o) := by
          rw [tx_len]
          exact congrArg V.str (cut_min x o x.length ho hlen rfl)
        revert ev
        generalize V.str (cutS (tx x) (some (0 - (if ((tx x).length : Int) < (o : Int) then ((tx x).length : Int) else (o : Int)))) none) = q
        intro ev
        exact cont q ev
    case cont =>
      intro q hq
      subst hq
      refine ⟨_, rfl, _, rfl, a, bk, o, rfl, ha, hb1, hb2, ho, fun d H3 s3 hd R => ?_⟩
      obtain ⟨kvs, hdk, hv⟩ := R.get (endOf x o)
      refine ⟨d, rfl, .inl ⟨_, .inl hdk⟩, _, rfl, fun e0 he0 => ?_⟩
      have s4 : Same H3 (upd H3 e0 (.dK [])) := Same.upd1 he0
      obtain ⟨ra, e1, hra⟩ : ∃ ra, (valV kvs (Sum.inr (tx (endOf x o)))).getD (.ref e0) = .ref ra ∧ upd H3 e0 (.dK []) ra = some (.dK (rowV (rowOf (pairsB o bk) (endOf x o)))) := by
        rcases hv with ⟨hv1, hv2⟩ | ⟨ra, hv1, hv2⟩
        · exact ⟨e0, by rw [hv1]; rfl, by rw [upd_same, hv2]; rfl⟩
        · exact ⟨ra, by rw [hv1]; rfl, s4 _ _ hv2⟩
      refine ⟨_, DGet.k (k := Sum.inr (tx (endOf x o))) (s4 _ _ hdk), ?_⟩
      rw [e1]
      exact k ra _ (s3.trans s4) hra
end
end Kn
end
section
set_option Elab.async false
set_option linter.all false
set_option maxRecDepth 100000
set_option maxHeartbeats 1000000
namespace Kn
open PySem L2
section
variable {P : Program} {w : World} {K : PySem.W.Frag} {mg : Str → Option Value} {base : Heap}
def sp3 (nb no nn : Addr) (good : Hp → List S → Nat → S → VK → Prop) : Sp := fun vs H Q E => ∃ (v u y : V) (d e g : PyData), vs = [v, u, y] ∧ Thg H d v ∧ Thg H e u ∧ Thg H g y ∧ sml d = true ∧ sml e = true ∧ sml g = true ∧
  (isBookD d = false → ∀ H', Same H H' → E (.ref nb) none H') ∧ (isBookD d = true → isOrderD e = false → ∀ H', Same H H' → E (.ref no) none H') ∧ (isBookD d = true → isOrderD e = true → isNameD g = false → ∀ H', Same H H' → E (.ref nn) none H') ∧
  (∀ (a : Addr) (bk : List S) (o : Nat) (nm : S), v = .ref a → u = .int o → y = sv nm → H a = some (.tup (bkV bk)) → Bk bk o → isNm nm → good H bk o nm Q)
def gdSteps (K : PySem.W.Frag) : Hp → List S → Nat → S → VK → Prop := fun H bk o nm Q => ∀ l xs H', Same H H' → H l = none → H' l = some (.lst xs) → Reps K H' ((pairs1 o nm).map (stD (pairsB o bk))) xs → Q (.ref l) H'
def gdShare (K : PySem.W.Frag) : Hp → List S → Nat → S → VK → Prop := fun H bk o nm Q => (pairsB o bk).length ^ (nm.length + 1) < 1073741824 ∧ ∀ v H', Same H H' → FrA K H' v (shareOf (pairsB o bk) o nm) → Q v H'
def gdMakes : Hp → List S → Nat → S → VK → Prop := fun H bk o nm Q => (pairsB o bk).length ^ (nm.length + 1) < 1073741824 ∧ ∀ H', Same H H' → Q (.bl (decide (0 < (shareOf (pairsB o bk) o nm).1))) H'
theorem ok_stepsX {f : Addr} {fd : FuncData} {nb no nn : Addr} (F : Fun K "steps" "steps" sSteps f fd) (N : NeedsR P w K mg base nb no nn) (cSt : Cal P w K mg base 4 "steps_by_rows" ["rows", "order", "name"] (spStepsR K)) :
    FnOk P w K mg base (CXr P w) 5 f fd ["book", "order", "name"] (sp3 nb no nn (gdSteps K)) := by
  refine F.okR scSteps (fun vs H Q E h => ?_) (fun cdv A outer s H vs Q E hr h ok => ?_)
  · obtain ⟨v, u, y, d, e, g, rfl, _⟩ := h; rfl
  · obtain ⟨v, u, y, d, e, g, rfl, hv, hue, hy, sd, se, sg, kb, ko, kn, kg⟩ := h
    have hr3 := hr.mono (j := 3) (by decide)
    have hr2 := hr.mono (j := 2) (by decide)
    refine ⟨_, pss_cons (ps_expr (pe_calR N.bk ok.pass hr3 rfl (pa_cons (pv 0) pa_nil))) (pss_cons (ps_expr (pe_calR N.od ok.pass hr3 rfl (pa_cons (pv 1) pa_nil))) (pss_cons (ps_expr (pe_calR N.nm ok.pass hr2 rfl (pa_cons (pv 2) pa_nil)))
      (pss_one (ps_ret (pe_cal cSt hr rfl (pa_cons (pe_cal N.rows hr3 rfl (pa_cons (pv 0) (pa_cons (pv 1) pa_nil))) (pa_cons (pv 1) (pa_cons (pv 2) pa_nil)))))))), ?_⟩
    refine ⟨_, rfl, v, d, rfl, hv, sd, fun gb H0 s0 => ?_, fun hbad H0 s0 => kb hbad H0 s0⟩
    refine ⟨_, rfl, u, e, rfl, Thg.same s0 _ _ hue, se, fun go H1 s1 => ?_, fun hbo H1 s1 => ko gb hbo _ (s0.trans s1)⟩
    have s01 := s0.trans s1
    refine ⟨_, rfl, y, g, rfl, Thg.same s01 _ _ hy, sg, fun gn H2 s2 => ?_, fun hbn H2 s2 => kn gb go hbn _ (s01.trans s2)⟩
    have s12 := s01.trans s2
    obtain ⟨a, bk, rfl, ha, hbk, rfl⟩ := thg_book hv gb
    obtain ⟨o, rfl, ho1, ho3⟩ := thg_order hue go
    obtain ⟨nm, rfl, hn, rfl⟩ := thg_name hy gn
    have hb : Bk bk o := ⟨hbk, ho1, ho3⟩
    have k := kg a bk o nm rfl rfl rfl ha hb hn
    refine ⟨_, rfl, _, rfl, a, bk, o, rfl, s12 _ _ ha, hb.hi, hb.l8, hb.o1, fun d H3 s3 hd R => ?_⟩
    refine ⟨_, rfl, _, rfl, d, _, o, nm, rfl, R, (pairs_len hb).2, hb.o1, (by have := hn.2.1; omega), fun l xs H4 s4 hl h4 rp => ?_⟩
    have s123 := s12.trans s3
    exact k l xs H4 (s123.trans s4) (s123.free hl) h4 rp
theorem ok_shareX {f : Addr} {fd : FuncData} {nb no nn : Addr} (F : Fun K "share" "share" sShare f fd) (N : NeedsR P w K mg base nb no nn) (cSh : Cal P w K mg base 5 "share_by_rows" ["rows", "order", "name"] (spShareR K)) :
    FnOk P w K mg base (CXr P w) 6 f fd ["book", "order", "name"] (sp3 nb no nn (gdShare K)) := by
  refine F.okR scShare (fun vs H Q E h => ?_) (fun cdv A outer s H vs Q E hr h ok => ?_)
  · obtain ⟨v, u, y, d, e, g, rfl, _⟩ := h; rfl
  · obtain ⟨v, u, y, d, e, g, rfl, hv, hue, hy, sd, se, sg, kb, ko, kn, kg⟩ := h
    have hr3 := hr.mono (j := 3) (by decide)
    have hr2 := hr.mono (j := 2) (by decide)
    refine ⟨_, pss_cons (ps_expr (pe_calR N.bk ok.pass hr3 rfl (pa_cons (pv 0) pa_nil))) (pss_cons (ps_expr (pe_calR N.od ok.pass hr3 rfl (pa_cons (pv 1) pa_nil))) (pss_cons (ps_expr (pe_calR N.nm ok.pass hr2 rfl (pa_cons (pv 2) pa_nil)))
      (pss_one (ps_ret (pe_cal cSh hr rfl (pa_cons (pe_cal N.rows hr3 rfl (pa_cons (pv 0) (pa_cons (pv 1) pa_nil))) (pa_cons (pv 1) (pa_cons (pv 2) pa_nil)))))))), ?_⟩
    refine ⟨_, rfl, v, d, rfl, hv, sd, fun gb H0 s0 => ?_, fun hbad H0 s0 => kb hbad H0 s0⟩
    refine ⟨_, rfl, u, e, rfl, Thg.same s0 _ _ hue, se, fun go H1 s1 => ?_, fun hbo H1 s1 => ko gb hbo _ (s0.trans s1)⟩
    have s01 := s0.trans s1
    refine ⟨_, rfl, y, g, rfl, Thg.same s01 _ _ hy, sg, fun gn H2 s2 => ?_, fun hbn H2 s2 => kn gb go hbn _ (s01.trans s2)⟩
    have s12 := s01.trans s2
    obtain ⟨a, bk, rfl, ha, hbk, rfl⟩ := thg_book hv gb
    obtain ⟨o, rfl, ho1, ho3⟩ := thg_order hue go
    obtain ⟨nm, rfl, hn, rfl⟩ := thg_name hy gn
    have hb : Bk bk o := ⟨hbk, ho1, ho3⟩
    obtain ⟨pw, k⟩ := kg a bk o nm rfl rfl rfl ha hb hn
    have pl := pairs_len hb
    refine ⟨_, rfl, _, rfl, a, bk, o, rfl, s12 _ _ ha, hb.hi, hb.l8, hb.o1, fun d H3 s3 hd R => ?_⟩
    exact ⟨_, rfl, _, rfl, d, _, o, nm, rfl, R, pl.1, pl.2, pw, hb.o1, (by have := hn.2.1; omega), fun v H4 s4 fr => k v H4 ((s12.trans s3).trans s4) fr⟩
theorem ok_makesX {f : Addr} {fd : FuncData} {nb no nn : Addr} (F : Fun K "makes" "makes" sMakes f fd) (C : Cst2 K mg) (cSh : CalR P w K mg base 6 "share" ["book", "order", "name"] (sp3 nb no nn (gdShare K))) (cL : Cal P w K mg base 1 "is_less" ["one", "other"] (spLess K)) :
    FnOk P w K mg base (CXr P w) 7 f fd ["book", "order", "name"] (sp3 nb no nn gdMakes) := by
  obtain ⟨aN, hN, tN⟩ := C.nought
  refine F.okR scMakes (fun vs H Q E h => ?_) (fun cdv A outer s H vs Q E hr h ok => ?_)
  · obtain ⟨v, u, y, d, e, g, rfl, _⟩ := h; rfl
  · obtain ⟨v, u, y, d, e, g, rfl, hv, hue, hy, sd, se, sg, kb, ko, kn, kg⟩ := h
    have hr1 := hr.mono (j := 1) (by decide)
    refine ⟨_, pss_one (ps_ret (pe_cal cL hr1 rfl (pa_cons (pe_glob (v := .ref aN) (by rfl) hN rfl) (pa_cons (pe_calR cSh ok.pass hr rfl (pa_cons (pv 0) (pa_cons (pv 1) (pa_cons (pv 2) pa_nil)))) pa_nil)))), ?_⟩
    refine ⟨_, rfl, _, rfl, _, rfl, v, u, y, d, e, g, rfl, hv, hue, hy, sd, se, sg, kb, ko, kn, fun a bk o nm e1 e2 e3 ha hb hn => ?_⟩
    obtain ⟨pw, k⟩ := kg a bk o nm e1 e2 e3 ha hb hn
    refine ⟨pw, fun v1 H1 s1 fr => ?_⟩
    refine ⟨_, v1, (0, 1), _, rfl, ⟨aN, rfl, tN _⟩, fr, ⟨fq01, by decide, by decide⟩, share_sm (pairs_len hb).1 pw, ?_⟩
    rw [lss_zero]
    exact k H1 s1
def sp4 (nb no nn : Addr) : Sp := fun vs H Q E => ∃ (v u y z : V) (d e g i : PyData), vs = [v, u, y, z] ∧ Thg H d v ∧ Thg H e u ∧ Thg H g y ∧ Thg H i z ∧ sml d = true ∧ sml e = true ∧ sml g = true ∧ sml i = true ∧
  (isBookD d = false → ∀ H', Same H H' → E (.ref nb) none H') ∧ (isBookD d = true → isOrderD e = false → ∀ H', Same H H' → E (.ref no) none H') ∧ (isBookD d = true → isOrderD e = true → isNameD g = false ∨ isNameD i = false → ∀ H', Same H H' → E (.ref nn) none H') ∧
  (∀ (a : Addr) (bk : List S) (o : Nat) (x y' : S), v = .ref a → u = .int o → y = sv x → z = sv y' → H a = some (.tup (bkV bk)) → Bk bk o → isNm x → isNm y' → (pairsB o bk).length ^ (x.length + 1) < 1073741824 ∧ (pairsB o bk).length ^ (y'.length + 1) < 1073741824 ∧
    ∀ H', Same H H' → Q (sv (lkl (shareOf (pairsB o bk) o x) (shareOf (pairsB o bk) o y') x y')) H')
theorem ok_likX {f : Addr} {fd : FuncData} {nb no nn : Addr} (F : Fun K "likelier" "likelier" sLik f fd) (B : Blt mg) (N : NeedsR P w K mg base nb no nn) (cSh : Cal P w K mg base 5 "share_by_rows" ["rows", "order", "name"] (spShareR K)) (cL : Cal P w K mg base 1 "is_less" ["one", "other"] (spLess K)) :
    FnOk P w K mg base (CXr P w) 6 f fd ["book", "order", "one", "other"] (sp4 nb no nn) := by
  refine F.okR scLik (fun vs H Q E h => ?_) (fun cdv A outer s H vs Q E hr h ok => ?_)
  · obtain ⟨v, u, y, z, d, e, g, i, rfl, _⟩ := h; rfl
  · obtain ⟨v, u, y, z, d, e, g, i, rfl, hv, hue, hy, hz, sd, se, sg, si, kb, ko, kn, kg⟩ := h
    have hr3 := hr.mono (j := 3) (by decide)
    have hr2 := hr.mono (j := 2) (by decide)
    have hr1 := hr.mono (j := 1) (by decide)
    have nd := scLik.nd
    refine ⟨_, pss_cons (ps_expr (pe_calR N.bk ok.pass hr3 rfl (pa_cons (pv 0) pa_nil))) (pss_cons (ps_expr (pe_calR N.od ok.pass hr3 rfl (pa_cons (pv 1) pa_nil))) (pss_cons (ps_expr (pe_calR N.nm ok.pass hr2 rfl (pa_cons (pv 2) pa_nil)))
      (pss_cons (ps_expr (pe_calR N.nm ok.pass hr2 rfl (pa_cons (pv 3) pa_nil)))
      (pss_cons (ps_set (i := 4) nd rfl (Or.inl rfl) (pe_cal N.rows hr3 rfl (pa_cons (pv 0) (pa_cons (pv 1) pa_nil))))
      (pss_cons (ps_set (i := 5) nd rfl (Or.inl rfl) (pe_cal cSh hr rfl (pa_cons (pv 4) (pa_cons (pv 1) (pa_cons (pv 2) pa_nil)))))
      (pss_cons (ps_set (i := 6) nd rfl (Or.inl rfl) (pe_cal cSh hr rfl (pa_cons (pv 4) (pa_cons (pv 1) (pa_cons (pv 3) pa_nil)))))
      (pss_cons (ps_if (pt_val (pe_cal cL hr1 rfl (pa_cons (pv 5) (pa_cons (pv 6) pa_nil)))) (pss_one (ps_ret (pv 3))) pss_nil)
      (pss_cons (ps_if (pt_val (pe_cal cL hr1 rfl (pa_cons (pv 6) (pa_cons (pv 5) pa_nil)))) (pss_one (ps_ret (pv 2))) pss_nil)
      (pss_one (ps_ret (pe_callB (call_minS rfl) (by rfl) B.min PyProof.Rows.boot_min (pa_cons (pv 2) (pa_cons (pv 3) pa_nil))))))))))))), ?_⟩
    refine ⟨_, rfl, v, d, rfl, hv, sd, fun gb H0 s0 => ?_, fun hbad H0 s0 => kb hbad H0 s0⟩
    refine ⟨_, rfl, u, e, rfl, Thg.same s0 _ _ hue, se, fun go H1 s1 => ?_, fun hbo H1 s1 => ko gb hbo _ (s0.trans s1)⟩
    have s01 := s0.trans s1
    refine ⟨_, rfl, y, g, rfl, Thg.same s01 _ _ hy, sg, fun gn H2 s2 => ?_, fun hbn H2 s2 => kn gb go (.inl hbn) _ (s01.trans s2)⟩
    have s02 := s01.trans s2
    refine ⟨_, rfl, z, i, rfl, Thg.same s02 _ _ hz, si, fun gi H2' s2' => ?_, fun hbn H2' s2' => kn gb go (.inr hbn) _ (s02.trans s2')⟩
    have s12 := s02.trans s2'
    obtain ⟨a, bk, rfl, ha, hbk, rfl⟩ := thg_book hv gb
    obtain ⟨o, rfl, ho1, ho3⟩ := thg_order hue go
    obtain ⟨x, rfl, hx, rfl⟩ := thg_name hy gn
    obtain ⟨x2, rfl, hx2, rfl⟩ := thg_name hz gi
    have hb : Bk bk o := ⟨hbk, ho1, ho3⟩
    obtain ⟨pwx, pwy, k⟩ := kg a bk o x x2 rfl rfl rfl rfl ha hb hx hx2
    have pl := pairs_len hb
    refine ⟨_, rfl, _, rfl, a, bk, o, rfl, s12 _ _ ha, hb.hi, hb.l8, hb.o1, fun d H3 s3 hd R => ?_⟩
    refine ⟨_, rfl, _, rfl, _, rfl, d, _, o, x, rfl, R, pl.1, pl.2, pwx, hb.o1, (by have := hx.2.1; omega), fun v H4 s4 fr => ?_⟩
    refine ⟨_, rfl, _, rfl, _, rfl, d, _, o, x2, rfl, R.same s4, pl.1, pl.2, pwy, hb.o1, (by have := hx2.2.1; omega), fun u H5 s5 fu => ?_⟩
    have sx := share_sm (o := o) pl.1 pwx
    have sy := share_sm (o := o) pl.1 pwy
    have fin := k H5 (((s12.trans s3).trans s4).trans s5)
    refine ⟨_, rfl, _, rfl, v, u, _, _, rfl, fr.same s5, fu, sx, sy, ?_⟩
    refine ⟨_, rfl, ?_⟩
    cases c1 : lss (shareOf (pairsB o bk) o x) (shareOf (pairsB o bk) o x2) with
    | true =>
      refine iteT ⟨_, rfl, ?_⟩
      unfold lkl at fin
      rw [if_pos c1] at fin
      exact fin
    | false =>
      refine iteF ?_
      refine ⟨_, rfl, _, rfl, u, v, _, _, rfl, fu, fr.same s5, sy, sx, ?_⟩
      refine ⟨_, rfl, ?_⟩
      cases c2 : lss (shareOf (pairsB o bk) o x2) (shareOf (pairsB o bk) o x) with
      | true =>
        refine iteT ⟨_, rfl, ?_⟩
        unfold lkl at fin
        rw [if_neg (by rw [c1]; decide), if_pos c2] at fin
        exact fin
      | false =>
        refine iteF ⟨_, rfl, _, rfl, _, _, rfl, ?_⟩
        unfold lkl at fin
        rw [if_neg (by rw [c1]; decide), if_neg (by rw [c2]; decide)] at fin
        unfold min2 at fin
        rw [tx_cps, tx_cps]
        by_cases c3 : x2 < x
        · rw [if_pos c3] at fin ⊢; exact fin
        · rw [if_neg c3] at fin ⊢; exact fin
end
end Kn
end
section
set_option Elab.async false
set_option linter.all false
set_option maxRecDepth 100000
set_option maxHeartbeats 1000000
namespace Kn
open PySem L2
section
variable {P : Program} {w : World} {K : PySem.W.Frag} {mg : Str → Option Value} {base : Heap}
def spTold5 (K : PySem.W.Frag) : Sp := fun vs H Q _ => ∃ (way : Nat) (v u y : V) (d e g : PyData), vs = [.int way, v, u, y] ∧ way < 5 ∧ Thg H d v ∧ Thg H e u ∧ Thg H g y ∧ sml d = true ∧ sml e = true ∧ sml g = true ∧
  (isBookD d = false → ∀ p H', Same H H' → RefT H' p 0 → Q (.ref p) H') ∧ (isBookD d = true → isOrderD e = false → ∀ p H', Same H H' → RefT H' p 1 → Q (.ref p) H') ∧
  (isBookD d = true → isOrderD e = true → isNameD g = false → ∀ p H', Same H H' → RefT H' p 2 → Q (.ref p) H') ∧
  (∀ (a : Addr) (bk : List S) (o : Nat) (nm : S), v = .ref a → u = .int o → y = sv nm → H a = some (.tup (bkV bk)) → Bk bk o → isNm nm → (pairsB o bk).length ^ (nm.length + 1) < 1073741824 ∧ (pairsB o bk).length ^ 2 < 1073741824 ∧
    (way = 0 → ∀ l xs H', Same H H' → H l = none → H' l = some (.lst xs) → Reps K H' ((pairs1 o nm).map (stD (pairsB o bk))) xs → Q (.ref l) H') ∧
    (way = 1 → ∀ v H', Same H H' → FrA K H' v (shareOf (pairsB o bk) o nm) → Q v H') ∧
    (way = 2 → ∀ H', Same H H' → Q (.bl (decide (0 < (shareOf (pairsB o bk) o nm).1))) H') ∧
    (way = 3 ∨ way = 4 → ∀ H', Same H H' → Q (sv (lkl (shareOf (pairsB o bk) o nm) (shareOf (pairsB o bk) o [97]) nm [97])) H'))
abbrev sTold : Stmt := top 53
theorem scTold : FnScope ["_law_way", "_law_book_here", "_law_order", "_law_name_here", "_law_e"] ["_law_way", "_law_book_here", "_law_order", "_law_name_here"] (defScope sTold) := ⟨rfl, rfl, rfl, by decide +kernel, rfl, by decide +kernel, by decide +kernel⟩
theorem ok_told5 {f : Addr} {fd : FuncData} {cs : List Addr} {L : Addr} (F : Fun K "_law_told" "_law_told" sTold f fd) (E : ErrX K mg cs L) (cS : CalR P w K mg base 5 "steps" ["book", "order", "name"] (sp3 (cs.getD 0 0) (cs.getD 1 0) (cs.getD 2 0) (gdSteps K)))
    (cH : CalR P w K mg base 6 "share" ["book", "order", "name"] (sp3 (cs.getD 0 0) (cs.getD 1 0) (cs.getD 2 0) (gdShare K))) (cM : CalR P w K mg base 7 "makes" ["book", "order", "name"] (sp3 (cs.getD 0 0) (cs.getD 1 0) (cs.getD 2 0) gdMakes))
    (cL : CalR P w K mg base 6 "likelier" ["book", "order", "one", "other"] (sp4 (cs.getD 0 0) (cs.getD 1 0) (cs.getD 2 0))) (cR : CalB P w K mg base 1 "_law_refused" ["_law_e"] (spRefused cs)) :
    FnOk P w K mg base CX0 8 f fd ["_law_way", "_law_book_here", "_law_order", "_law_name_here"] (spTold5 K) := by
  obtain ⟨fS, fdS, okS, mS, kS, bS⟩ := id cS
  obtain ⟨fH, fdH, okH, mH, kH, bH⟩ := id cH
  obtain ⟨fM, fdM, okM, mM, kM, bM⟩ := id cM
  refine F.ok scTold (fun vs H Q E h => ?_) (fun cdv A outer s H vs Q E' hr h => ?_)
  · obtain ⟨way, v, u, y, d, e, g, rfl, _⟩ := h; rfl
  · obtain ⟨way, v, u, y, d, e, g, rfl, hw, hv, hue, hy, sd, se, sg, k0, k1, k2, kg⟩ := h
    have nd := scTold.nd
    have hr1 := hr.mono (j := 1) (by decide)
    have hr5 := hr.mono (j := 5) (by decide)
    have hr6 := hr.mono (j := 6) (by decide)
    refine ⟨_, pss_one (ps_try (i := 4) rfl rfl rfl E.like (by rfl) nd rfl rfl
      (fun E1 ET pn ok => pss_cons (ps_if (pt_cmpR op_lt (pv 0) pe_int (nomark _)) (pss_one (ps_ret (pe_callV P w K mg base (A.deeper (PyProof.Rows.envOfC "_law_told" (defScope sTold) s.heap.objs.size f cdv)) rfl rfl rfl rfl rfl rfl ok (pe_ix (ix_listK K rfl) (pe_lst (pa_cons (pe_glob (v := .ref fS) (by rfl) mS rfl) (pa_cons (pe_glob (v := .ref fH) (by rfl) mH rfl) (pa_cons (pe_glob (v := .ref fM) (by rfl) mM rfl) pa_nil)))) (pv 0) (fun _ _ => rfl)) (pa_cons (pv 1) (pa_cons (pv 2) (pa_cons (pv 3) pa_nil)))))) pss_nil)
        (pss_one (ps_ret (pe_ifExp (pt_cmpR op_eq (pv 0) pe_int (nomark _)) (pe_calR cL ok hr6 rfl (pa_cons (pv 1) (pa_cons (pv 2) (pa_cons (pv 3) (pa_cons pe_str pa_nil))))) (pe_calR cL ok hr6 rfl (pa_cons (pv 1) (pa_cons (pv 2) (pa_cons pe_str (pa_cons (pv 3) pa_nil)))))))))
      (fun e => pss_one (ps_ret (pe_calB cR (hr1.busy _) rfl (pa_cons (pv 4) pa_nil))))), ?_⟩
    have caught : ∀ (j : Nat), j < 8 → (∀ p H', Same H H' → RefT H' p j → Q (.ref p) H') → ∀ H1, Same H H1 → ∃ C : Addr, Value.ref (cs.getD j 0) = .ref C ∧ PySem.W.excIn K C veMro "ValueError.__new__" = true ∧ subOf K C L = true ∧ ∀ e1, H1 e1 = none →
        tRet (tCall (spRefused cs) [] E0 (tCons (tVar 4) tNil)) { nx := fun _ _ => False, rt := Q } ((List.replicate 5 none).set 4 (some (.ref e1))) (upd H1 e1 (XO e1 C)) := fun j hj kk H1 s1 => by
      obtain ⟨a1, a2, a3, _⟩ := E.at_ j hj
      refine ⟨_, rfl, a1.exc, a3, fun e1 he1 => ?_⟩
      refine ⟨_, rfl, e1, j, rfl, hj, upd_same, fun p H' sm _ hp => kk p H' (s1.trans ((Same.upd1 he1).trans sm)) hp⟩
    have tupI : ∀ (l : Addr) (xs ys : List V) (a : Addr), upd H l (.lst xs) a = some (.tup ys) → H a = some (.tup ys) := fun l xs ys a h => by
      by_cases e : a = l
      · subst e; rw [upd_same] at h; cases h
      · rw [upd_ne e] at h; exact h
    have sz3 : 3 ≤ sizeLine := by decide
    have na : isNameD (.str "a") = true := by decide +kernel
    have isa : ∀ y' : S, V.str "a" = sv y' → y' = [97] := fun y' h => tx_inj (V.str.inj h.symm)
    refine ⟨_, rfl, _, _, rfl, rfl, _, rfl, ?_⟩
    match way, hw with
    | 0, _ =>
      refine iteD (by decide) ⟨sz3, fun l hl => ?_⟩
      have s1 := Same.upd1 (o := .lst [.ref fS, .ref fH, .ref fM]) hl
      refine ⟨_, rfl, l, _, _, .ref fS, rfl, rfl, .of upd_same, atI_nat (j := 0) rfl, _, ⟨5, fS, fdS, _, rfl, okS, hr5, kS, bS⟩, ?_⟩
      refine ⟨_, rfl, _, rfl, _, rfl, v, u, y, d, e, g, rfl, Thg.same s1 _ _ hv, Thg.same s1 _ _ hue, Thg.same s1 _ _ hy, sd, se, sg, fun hb H1 s2 => caught 0 (by decide) (k0 hb) H1 (s1.trans s2), fun hb ho H1 s2 => caught 1 (by decide) (k1 hb ho) H1 (s1.trans s2), fun hb ho hn H1 s2 => caught 2 (by decide) (k2 hb ho hn) H1 (s1.trans s2), fun a bk o nm e1 e2 e3 h3 h4 h5 => ?_⟩
      obtain ⟨_, _, q0, _⟩ := kg a bk o nm e1 e2 e3 (tupI _ _ _ _ h3) h4 h5
      exact fun l2 xs H2 s2 hl2 h2 rp => q0 rfl l2 xs H2 (s1.trans s2) (s1.free hl2) h2 rp
    | 1, _ =>
      refine iteD (by decide) ⟨sz3, fun l hl => ?_⟩
      have s1 := Same.upd1 (o := .lst [.ref fS, .ref fH, .ref fM]) hl
      refine ⟨_, rfl, l, _, _, .ref fH, rfl, rfl, .of upd_same, atI_nat (j := 1) rfl, _, ⟨6, fH, fdH, _, rfl, okH, hr6, kH, bH⟩, ?_⟩
      refine ⟨_, rfl, _, rfl, _, rfl, v, u, y, d, e, g, rfl, Thg.same s1 _ _ hv, Thg.same s1 _ _ hue, Thg.same s1 _ _ hy, sd, se, sg, fun hb H1 s2 => caught 0 (by decide) (k0 hb) H1 (s1.trans s2), fun hb ho H1 s2 => caught 1 (by decide) (k1 hb ho) H1 (s1.trans s2), fun hb ho hn H1 s2 => caught 2 (by decide) (k2 hb ho hn) H1 (s1.trans s2), fun a bk o nm e1 e2 e3 h3 h4 h5 => ?_⟩
      obtain ⟨pw, _, _, q1, _⟩ := kg a bk o nm e1 e2 e3 (tupI _ _ _ _ h3) h4 h5
      exact ⟨pw, fun v2 H2 s2 fr => q1 rfl v2 H2 (s1.trans s2) fr⟩
    | 2, _ =>
      refine iteD (by decide) ⟨sz3, fun l hl => ?_⟩
      have s1 := Same.upd1 (o := .lst [.ref fS, .ref fH, .ref fM]) hl
      refine ⟨_, rfl, l, _, _, .ref fM, rfl, rfl, .of upd_same, atI_nat (j := 2) rfl, _, ⟨7, fM, fdM, _, rfl, okM, hr, kM, bM⟩, ?_⟩
      refine ⟨_, rfl, _, rfl, _, rfl, v, u, y, d, e, g, rfl, Thg.same s1 _ _ hv, Thg.same s1 _ _ hue, Thg.same s1 _ _ hy, sd, se, sg, fun hb H1 s2 => caught 0 (by decide) (k0 hb) H1 (s1.trans s2), fun hb ho H1 s2 => caught 1 (by decide) (k1 hb ho) H1 (s1.trans s2), fun hb ho hn H1 s2 => caught 2 (by decide) (k2 hb ho hn) H1 (s1.trans s2), fun a bk o nm e1 e2 e3 h3 h4 h5 => ?_⟩
      obtain ⟨pw, _, _, _, q2, _⟩ := kg a bk o nm e1 e2 e3 (tupI _ _ _ _ h3) h4 h5
      exact ⟨pw, fun H2 s2 => q2 rfl H2 (s1.trans s2)⟩
    | 3, _ =>
      refine iteDF (by decide) ⟨_, rfl, rfl, _, rfl, ?_⟩
      refine iteD rfl ?_
      refine ⟨_, rfl, _, rfl, _, rfl, v, u, y, .str "a", d, e, g, .str "a", rfl, hv, hue, hy, rfl, sd, se, sg, by decide +kernel, fun hb H1 s2 => caught 0 (by decide) (k0 hb) H1 s2, fun hb ho H1 s2 => caught 1 (by decide) (k1 hb ho) H1 s2, fun hb ho hn H1 s2 => caught 2 (by decide) (k2 hb ho (hn.resolve_right (by rw [na]; decide))) H1 s2, fun a bk o nm y' e1 e2 e3 e4 h3 h4 h5 h6 => ?_⟩
      obtain rfl := isa y' e4
      obtain ⟨pw, pw2, _, _, _, q⟩ := kg a bk o nm e1 e2 e3 h3 h4 h5
      exact ⟨pw, pw2, q (.inl rfl)⟩
    | 4, _ =>
      refine iteDF (by decide) ⟨_, rfl, rfl, _, rfl, ?_⟩
      refine iteDF (by intro z; cases z) ?_
      refine ⟨_, rfl, _, rfl, _, rfl, v, u, .str "a", y, d, e, .str "a", g, rfl, hv, hue, rfl, hy, sd, se, by decide +kernel, sg, fun hb H1 s2 => caught 0 (by decide) (k0 hb) H1 s2, fun hb ho H1 s2 => caught 1 (by decide) (k1 hb ho) H1 s2, fun hb ho hn H1 s2 => caught 2 (by decide) (k2 hb ho (hn.resolve_left (by rw [na]; decide))) H1 s2, fun a bk o y' nm e1 e2 e4 e3 h3 h4 h6 h5 => ?_⟩
      obtain rfl := isa y' e4
      obtain ⟨pw, pw2, _, _, _, q⟩ := kg a bk o nm e1 e2 e3 h3 h4 h5
      refine ⟨pw2, pw, ?_⟩
      rw [lkl_comm]
      exact q (.inr rfl)
end
end Kn
end
section
set_option Elab.async false
set_option linter.all false
set_option maxRecDepth 100000
set_option maxHeartbeats 1000000
namespace Kn
open PySem L2
section
variable {P : Program} {w : World} {K : PySem.W.Frag} {mg : Str → Option Value} {base : Heap}
def spGcdW : Sp := fun vs H Q _ => ∃ u d : Int, vs = [.int u, .int d] ∧ 0 ≤ u ∧ 0 < d ∧ d < 1606938044258990275541962092341162602522202993782792835301376 ∧ Q (.int (gcdI u d)) H
def spLowW : Sp := fun vs H Q _ => ∃ u d : Int, vs = [.int u, .int d] ∧ 0 ≤ u ∧ 0 < d ∧ d < 1606938044258990275541962092341162602522202993782792835301376 ∧ ∀ p, H p = none → Q (.ref p) (upd H p (frO (low u d)))
theorem ok_gcdW {f : Addr} {fd : FuncData} (F : Fun K "greatest_divisor" "greatest_divisor" sGcd f fd) : FnOk P w K mg base CX0 1 f fd ["one", "other"] spGcdW := by
  refine F.ok scGcd (fun vs H Q E h => ?_) (fun cdv A outer s H vs Q E hr h => ?_)
  · obtain ⟨a, b, rfl, _⟩ := h; rfl
  · obtain ⟨u, d, rfl, hu0, hd0, hd1, k⟩ := h
    have nd := scGcd.nd
    refine ⟨_, pss_cons (ps_while PassesOwn.never (pt_cmpR op_ne (pv 1) pe_int (nomark _))
        (pss_cons (ps_set (i := 2) nd rfl (Or.inl rfl) (pe_op op_mod (pv 0) (pv 1))) (pss_cons (ps_set (i := 0) nd rfl (Or.inl rfl) (pv 1)) (pss_one (ps_set (i := 1) nd rfl (Or.inl rfl) (pv 2))))))
      (pss_one (ps_ret (pv 0))), ?_⟩
    refine ⟨fun m σ H' => H' = H ∧ ∃ (a b : Int) (r : Option V), σ = [some (.int a), some (.int b), r] ∧ m = b.toNat ∧ 0 ≤ a ∧ 0 ≤ b ∧ b < 1606938044258990275541962092341162602522202993782792835301376 ∧ Int.gcd a b = Int.gcd u d, ⟨_, rfl, u, d, none, rfl, rfl, hu0, Int.le_of_lt hd0, hd1, rfl⟩, ?_⟩
    rintro m σ H' ⟨rfl, a, b, r, rfl, rfl, ha, hb, hb1, hg⟩
    refine ⟨_, rfl, rfl, _, rfl, ?_⟩
    by_cases hz : b = 0
    · subst hz
      refine iteNS rfl ⟨_, rfl, ?_⟩
      have e : a = gcdI u d := by
        unfold gcdI
        rw [← hg]
        obtain ⟨x, rfl⟩ := Int.eq_ofNat_of_zero_le ha
        simp
      show Q (.int a) H'
      rw [e]
      exact k
    · have hb0 : 0 < b := by omega
      have hne : ¬ (V.int b = V.int 0) := fun z => hz (V.int.inj z)
      have et : (!decide (V.int b = V.int 0)) = true := by rw [decide_eq_false hne]; rfl
      show if (!decide (V.int b = V.int 0)) = true then _ else _
      rw [if_pos et]
      refine ⟨fun σ' H'' => H'' = H' ∧ σ' = [some (.int b), some (.int (a % b)), some (.int (a % b))], ?_, ?_⟩
      · rintro σ' H'' ⟨rfl, rfl⟩
        have h1 := Int.emod_nonneg a hz
        have h2 := Int.emod_lt_of_pos a hb0
        exact ⟨(a % b).toNat, by omega, rfl, b, a % b, _, rfl, rfl, hb, h1, by omega, by rw [gcd_step ha hb0]; exact hg⟩
      · exact ⟨_, rfl, _, rfl, _, _, rfl, rfl, hb0, _, rfl, _, rfl, rfl, rfl⟩
theorem ok_lowW {f : Addr} {fd : FuncData} (F : Fun K "lowest" "lowest" sLow f fd) (c1 : Cal P w K mg base 1 "greatest_divisor" ["one", "other"] spGcdW) : FnOk P w K mg base CX0 2 f fd ["up", "down"] spLowW := by
  refine F.ok scLow (fun vs H Q E h => ?_) (fun cdv A outer s H vs Q E hr h => ?_)
  · obtain ⟨a, b, rfl, _⟩ := h; rfl
  · obtain ⟨u, d, rfl, hu0, hd0, hd1, k⟩ := h
    have nd := scLow.nd
    refine ⟨_, pss_cons (ps_set (i := 2) nd rfl (Or.inl rfl) (pe_cal c1 hr rfl (pa_cons (pv 0) (pa_cons (pv 1) pa_nil))))
      (pss_one (ps_ret (pe_tup (pa_cons (pe_op op_fdivB (pv 0) (pv 2)) (pa_cons (pe_op op_fdivB (pv 1) (pv 2)) pa_nil))))), ?_⟩
    have g1 := gcdI_pos (u := u) hd0
    have g2 : gcdI u d ≤ d := Int.le_of_dvd hd0 (Int.gcd_dvd_right ..)
    refine ⟨_, rfl, _, rfl, u, d, rfl, hu0, hd0, hd1, ?_⟩
    exact ⟨_, rfl, _, rfl, _, _, rfl, rfl, ⟨g1, by omega⟩, _, rfl, _, rfl, _, _, rfl, rfl, ⟨g1, by omega⟩, by show 2 ≤ sizeLine; decide, k⟩
abbrev sPartL : Stmt := top 48
theorem scPartL : FnScope ["_law_up", "_law_down", "_law_one", "_law_other"] ["_law_up", "_law_down"] (defScope sPartL) := ⟨rfl, rfl, rfl, by decide +kernel, rfl, by decide +kernel, by decide +kernel⟩
theorem ok_partL {f : Addr} {fd : FuncData} (F : Fun K "_law_lowest" "_law_lowest" sPartL f fd) : FnOk P w K mg base CX0 1 f fd ["_law_up", "_law_down"] spLowW := by
  refine F.ok scPartL (fun vs H Q E h => ?_) (fun cdv A outer s H vs Q E hr h => ?_)
  · obtain ⟨a, b, rfl, _⟩ := h; rfl
  · obtain ⟨u, d, rfl, hu0, hd0, hd1, k⟩ := h
    have nd := scPartL.nd
    refine ⟨_, pss_cons (ps_set (i := 2) nd rfl (Or.inl rfl) (pv 0)) (pss_cons (ps_set (i := 3) nd rfl (Or.inl rfl) (pv 1))
      (pss_cons (ps_while PassesOwn.never (pt_cmpR op_gt (pv 3) pe_int (nomark _))
        (pss_one (ps_par (i := 2) (j := 3) rfl nd rfl rfl (by decide) rfl rfl (pa_cons (pv 3) (pa_cons (pe_op op_mod (pv 2) (pv 3)) pa_nil)) rfl)))
      (pss_one (ps_ret (pe_tup (pa_cons (pe_op op_fdivB (pv 0) (pv 2)) (pa_cons (pe_op op_fdivB (pv 1) (pv 2)) pa_nil))))))), ?_⟩
    refine ⟨_, rfl, _, rfl, ?_⟩
    refine ⟨fun m σ H' => H' = H ∧ ∃ (a b : Int), σ = [some (.int u), some (.int d), some (.int a), some (.int b)] ∧ m = b.toNat ∧ 0 ≤ a ∧ 0 ≤ b ∧ b < 1606938044258990275541962092341162602522202993782792835301376 ∧ Int.gcd a b = Int.gcd u d, ⟨_, rfl, u, d, rfl, rfl, hu0, Int.le_of_lt hd0, hd1, rfl⟩, ?_⟩
    rintro m σ H' ⟨rfl, a, b, rfl, rfl, ha, hb, hb1, hg⟩
    refine ⟨_, rfl, _, _, rfl, rfl, _, rfl, ?_⟩
    by_cases hz : b = 0
    · subst hz
      refine iteDF (by decide) ?_
      have e : a = gcdI u d := by
        unfold gcdI
        rw [← hg]
        obtain ⟨x, rfl⟩ := Int.eq_ofNat_of_zero_le ha
        simp
      have g1 := gcdI_pos (u := u) hd0
      have g2 : gcdI u d ≤ d := Int.le_of_dvd hd0 (Int.gcd_dvd_right ..)
      rw [← e] at g1 g2
      refine ⟨_, rfl, _, rfl, _, _, rfl, rfl, ⟨g1, by omega⟩, _, rfl, _, rfl, _, _, rfl, rfl, ⟨g1, by omega⟩, by show 2 ≤ sizeLine; decide, fun p hp => ?_⟩
      have := k p hp
      unfold low at this
      rw [← e] at this
      exact this
    · have hb0 : 0 < b := by omega
      refine iteD hb0 ?_
      refine ⟨fun σ' H'' => H'' = H' ∧ σ' = [some (.int u), some (.int d), some (.int b), some (.int (a % b))], ?_, ?_⟩
      · rintro σ' H'' ⟨rfl, rfl⟩
        have h1 := Int.emod_nonneg a hz
        have h2 := Int.emod_lt_of_pos a hb0
        exact ⟨(a % b).toNat, by omega, rfl, b, a % b, rfl, rfl, hb, h1, by omega, by rw [gcd_step ha hb0]; exact hg⟩
      · exact ⟨_, rfl, _, rfl, _, rfl, _, _, rfl, rfl, hb0, _, _, rfl, rfl, rfl⟩
structure Wd (q : Int × Int) : Prop extends Fq q where
  u1 : q.1 < 1152921504606846976
  d1 : q.2 < 1152921504606846976
theorem Sm.wd {q : Int × Int} (h : Sm q) : Wd q := ⟨h.toFq, by have := h.u1; omega, by have := h.d1; omega⟩
theorem Wd.prod {p q : Int × Int} (a : Wd p) (b : Wd q) : p.2 * q.2 < 1606938044258990275541962092341162602522202993782792835301376 := by
  have := Int.mul_le_mul (Int.le_of_lt a.d1) (Int.le_of_lt b.d1) (Int.le_of_lt b.dn) (by decide)
  omega
theorem cmW {p : Int} (a : 0 ≤ p) (b : p < 1152921504606846976) (q : Int) : CMul p q := .inl ⟨by omega, by omega⟩
def spTimesW (K : PySem.W.Frag) : Sp := fun vs H Q _ => ∃ (x y : V) (p q : Int × Int), vs = [x, y] ∧ FrA K H x p ∧ FrA K H y q ∧ Wd p ∧ Wd q ∧ ∀ a, H a = none → Q (.ref a) (upd H a (frO (tms p q)))
def spAddedW (K : PySem.W.Frag) : Sp := fun vs H Q _ => ∃ (x y : V) (p q : Int × Int), vs = [x, y] ∧ FrA K H x p ∧ FrA K H y q ∧ Wd p ∧ Wd q ∧ ∀ a, H a = none → Q (.ref a) (upd H a (frO (adds p q)))
def subs (p q : Int × Int) : Int × Int := low (p.1 * q.2 - q.1 * p.2) (p.2 * q.2)
def spTakenW (K : PySem.W.Frag) : Sp := fun vs H Q _ => ∃ (x y : V) (p q : Int × Int), vs = [x, y] ∧ FrA K H x p ∧ FrA K H y q ∧ Wd p ∧ Wd q ∧ q.1 * p.2 ≤ p.1 * q.2 ∧ ∀ a, H a = none → Q (.ref a) (upd H a (frO (subs p q)))
def spLessW (K : PySem.W.Frag) : Sp := fun vs H Q _ => ∃ (x y : V) (p q : Int × Int), vs = [x, y] ∧ FrA K H x p ∧ FrA K H y q ∧ Wd p ∧ Wd q ∧ Q (.bl (lss p q)) H
theorem ok_timesW {f : Addr} {fd : FuncData} (F : Fun K "times" "times" sTimes f fd) (c1 : Cal P w K mg base 2 "lowest" ["up", "down"] spLowW) : FnOk P w K mg base CX0 3 f fd ["one", "other"] (spTimesW K) := by
  refine F.ok scTimes (fun vs H Q E h => ?_) (fun cdv A outer s H vs Q E hr h => ?_)
  · obtain ⟨x, y, p, q, rfl, _⟩ := h; rfl
  · obtain ⟨x, y, p, q, rfl, ⟨a, rfl, ha⟩, ⟨b, rfl, hb⟩, sp, sq, k⟩ := h
    refine ⟨_, pss_one (ps_ret (pe_cal c1 hr rfl (pa_cons (pe_op op_mul (pe_ix ix_tup (pv 0) pe_int (fun _ _ => rfl)) (pe_ix ix_tup (pv 1) pe_int (fun _ _ => rfl)))
      (pa_cons (pe_op op_mul (pe_ix ix_tup (pv 0) pe_int (fun _ _ => rfl)) (pe_ix ix_tup (pv 1) pe_int (fun _ _ => rfl))) pa_nil)))), ?_⟩
    have p0 := sp.up; have q0 := sq.up; have p1 := sp.dn; have q1 := sq.dn
    refine ⟨_, rfl, a, _, 0, _, rfl, rfl, ha, rfl, _, rfl, b, _, 0, _, rfl, rfl, hb, rfl, _, _, rfl, rfl, cmW p0 sp.u1 _, ?_⟩
    refine ⟨_, rfl, a, _, 1, _, rfl, rfl, ha, rfl, _, rfl, b, _, 1, _, rfl, rfl, hb, rfl, _, _, rfl, rfl, cmW (Int.le_of_lt p1) sp.d1 _, ?_⟩
    exact ⟨_, _, rfl, Int.mul_nonneg p0 q0, Int.mul_pos p1 q1, (Wd.prod sp sq), k⟩
theorem ok_addedW {f : Addr} {fd : FuncData} (F : Fun K "added" "added" sAdded f fd) (c1 : Cal P w K mg base 2 "lowest" ["up", "down"] spLowW) : FnOk P w K mg base CX0 3 f fd ["one", "other"] (spAddedW K) := by
  refine F.ok scAdded (fun vs H Q E h => ?_) (fun cdv A outer s H vs Q E hr h => ?_)
  · obtain ⟨x, y, p, q, rfl, _⟩ := h; rfl
  · obtain ⟨x, y, p, q, rfl, ⟨a, rfl, ha⟩, ⟨b, rfl, hb⟩, sp, sq, k⟩ := h
    refine ⟨_, pss_one (ps_ret (pe_cal c1 hr rfl (pa_cons (pe_op op_add (pe_op op_mul (pe_ix ix_tup (pv 0) pe_int (fun _ _ => rfl)) (pe_ix ix_tup (pv 1) pe_int (fun _ _ => rfl))) (pe_op op_mul (pe_ix ix_tup (pv 1) pe_int (fun _ _ => rfl)) (pe_ix ix_tup (pv 0) pe_int (fun _ _ => rfl))))
      (pa_cons (pe_op op_mul (pe_ix ix_tup (pv 0) pe_int (fun _ _ => rfl)) (pe_ix ix_tup (pv 1) pe_int (fun _ _ => rfl))) pa_nil)))), ?_⟩
    have p0 := sp.up; have q0 := sq.up; have p1 := sp.dn; have q1 := sq.dn
    refine ⟨_, rfl, a, _, 0, _, rfl, rfl, ha, rfl, _, rfl, b, _, 1, _, rfl, rfl, hb, rfl, _, _, rfl, rfl, cmW p0 sp.u1 _, ?_⟩
    refine ⟨_, rfl, b, _, 0, _, rfl, rfl, hb, rfl, _, rfl, a, _, 1, _, rfl, rfl, ha, rfl, _, _, rfl, rfl, cmW q0 sq.u1 _, _, _, rfl, rfl, ?_⟩
    refine ⟨_, rfl, a, _, 1, _, rfl, rfl, ha, rfl, _, rfl, b, _, 1, _, rfl, rfl, hb, rfl, _, _, rfl, rfl, cmW (Int.le_of_lt p1) sp.d1 _, ?_⟩
    exact ⟨_, _, rfl, Int.add_nonneg (Int.mul_nonneg p0 (Int.le_of_lt q1)) (Int.mul_nonneg q0 (Int.le_of_lt p1)), Int.mul_pos p1 q1, (Wd.prod sp sq), k⟩
theorem ok_lessW {f : Addr} {fd : FuncData} (F : Fun K "is_less" "is_less" sLess f fd) : FnOk P w K mg base CX0 1 f fd ["one", "other"] (spLessW K) := by
  refine F.ok scLess (fun vs H Q E h => ?_) (fun cdv A outer s H vs Q E hr h => ?_)
  · obtain ⟨x, y, p, q, rfl, _⟩ := h; rfl
  · obtain ⟨x, y, p, q, rfl, ⟨a, rfl, ha⟩, ⟨b, rfl, hb⟩, sp, sq, k⟩ := h
    refine ⟨_, pss_one (ps_ret (pe_cmpR op_lt (pe_op op_mul (pe_ix ix_tup (pv 0) pe_int (fun _ _ => rfl)) (pe_ix ix_tup (pv 1) pe_int (fun _ _ => rfl))) (pe_op op_mul (pe_ix ix_tup (pv 1) pe_int (fun _ _ => rfl)) (pe_ix ix_tup (pv 0) pe_int (fun _ _ => rfl))) (nomark _))), ?_⟩
    have p0 := sp.up; have q0 := sq.up
    refine ⟨_, rfl, a, _, 0, _, rfl, rfl, ha, rfl, _, rfl, b, _, 1, _, rfl, rfl, hb, rfl, _, _, rfl, rfl, cmW p0 sp.u1 _, ?_⟩
    exact ⟨_, rfl, b, _, 0, _, rfl, rfl, hb, rfl, _, rfl, a, _, 1, _, rfl, rfl, ha, rfl, _, _, rfl, rfl, cmW q0 sq.u1 _, _, _, rfl, rfl, k⟩
abbrev sTaken : Stmt := top 32
theorem scTaken : FnScope ["one", "other"] ["one", "other"] (defScope sTaken) := ⟨rfl, rfl, rfl, by decide +kernel, rfl, by decide +kernel, by decide +kernel⟩
theorem ok_takenW {f : Addr} {fd : FuncData} (F : Fun K "less" "less" sTaken f fd) (c1 : Cal P w K mg base 2 "lowest" ["up", "down"] spLowW) : FnOk P w K mg base CX0 3 f fd ["one", "other"] (spTakenW K) := by
  refine F.ok scTaken (fun vs H Q E h => ?_) (fun cdv A outer s H vs Q E hr h => ?_)
  · obtain ⟨x, y, p, q, rfl, _⟩ := h; rfl
  · obtain ⟨x, y, p, q, rfl, ⟨a, rfl, ha⟩, ⟨b, rfl, hb⟩, sp, sq, hle, k⟩ := h
    refine ⟨_, pss_one (ps_ret (pe_cal c1 hr rfl (pa_cons (pe_op op_sub (pe_op op_mul (pe_ix ix_tup (pv 0) pe_int (fun _ _ => rfl)) (pe_ix ix_tup (pv 1) pe_int (fun _ _ => rfl))) (pe_op op_mul (pe_ix ix_tup (pv 1) pe_int (fun _ _ => rfl)) (pe_ix ix_tup (pv 0) pe_int (fun _ _ => rfl))))
      (pa_cons (pe_op op_mul (pe_ix ix_tup (pv 0) pe_int (fun _ _ => rfl)) (pe_ix ix_tup (pv 1) pe_int (fun _ _ => rfl))) pa_nil)))), ?_⟩
    have p0 := sp.up; have q0 := sq.up; have p1 := sp.dn; have q1 := sq.dn
    refine ⟨_, rfl, a, _, 0, _, rfl, rfl, ha, rfl, _, rfl, b, _, 1, _, rfl, rfl, hb, rfl, _, _, rfl, rfl, cmW p0 sp.u1 _, ?_⟩
    refine ⟨_, rfl, b, _, 0, _, rfl, rfl, hb, rfl, _, rfl, a, _, 1, _, rfl, rfl, ha, rfl, _, _, rfl, rfl, cmW q0 sq.u1 _, _, _, rfl, rfl, ?_⟩
    refine ⟨_, rfl, a, _, 1, _, rfl, rfl, ha, rfl, _, rfl, b, _, 1, _, rfl, rfl, hb, rfl, _, _, rfl, rfl, cmW (Int.le_of_lt p1) sp.d1 _, ?_⟩
    exact ⟨_, _, rfl, (by omega), Int.mul_pos p1 q1, (Wd.prod sp sq), k⟩
end
end Kn
end
section
set_option Elab.async false
set_option linter.all false
set_option maxRecDepth 100000
set_option maxHeartbeats 1000000
namespace Kn
open PySem L2
theorem low_of_fq {p : Int × Int} (h : Fq p) : low p.1 p.2 = p := Fq.ext (low_fq h.up h.dn) h (low_cross h.dn)
theorem adds_zero {p : Int × Int} (h : Fq p) : adds (0, 1) p = p := by
  unfold adds
  show low (0 * p.2 + p.1 * 1) (1 * p.2) = p
  rw [Int.zero_mul, Int.zero_add, Int.mul_one, Int.one_mul]
  exact low_of_fq h
theorem adds_subs_aux {a' b' p1 p2 q1 q2 : Int} (h : a' * (q2 * p2) = (q1 * p2 - p1 * q2) * b') : (a' * p2 + p1 * b') * q2 = q1 * (b' * p2) := by
  grind
theorem subs_fq {p q : Int × Int} (a : Fq p) (b : Fq q) (h : q.1 * p.2 ≤ p.1 * q.2) : Fq (subs p q) := low_fq (by omega) (Int.mul_pos a.dn b.dn)
theorem adds_subs {p q : Int × Int} (a : Fq p) (b : Fq q) (h : p.1 * q.2 ≤ q.1 * p.2) : adds (subs q p) p = q := by
  have f := subs_fq b a h
  have c := low_cross (u := q.1 * p.2 - p.1 * q.2) (Int.mul_pos b.dn a.dn)
  refine Eq.trans ?_ (low_of_fq b)
  exact low_ext (Int.add_nonneg (Int.mul_nonneg f.up (Int.le_of_lt a.dn)) (Int.mul_nonneg a.up (Int.le_of_lt f.dn))) (Int.mul_pos f.dn a.dn) b.up b.dn (adds_subs_aux c)
theorem subs_le {p q : Int × Int} (a : Fq p) (b : Fq q) (h : q.1 * p.2 ≤ p.1 * q.2) : (subs p q).1 ≤ p.1 * q.2 ∧ (subs p q).2 ≤ p.2 * q.2 := by
  have := low_le (u := p.1 * q.2 - q.1 * p.2) (d := p.2 * q.2) (by omega) (Int.mul_pos a.dn b.dn)
  have e := Int.mul_nonneg b.up (Int.le_of_lt a.dn)
  exact ⟨Int.le_trans this.2 (by omega), this.1⟩
section
variable {P : Program} {w : World} {K : PySem.W.Frag} {mg : Str → Option Value} {base : Heap}
def spSum (K : PySem.W.Frag) : Sp := fun vs H Q _ => ∃ (l : Addr) (x y : V) (p q : Int × Int), vs = [.ref l] ∧ H l = some (.lst [x, y]) ∧ FrA K H x p ∧ FrA K H y q ∧ Sm p ∧ Sm q ∧ ∀ a H', Same H H' → H' a = some (frO (adds p q)) → Q (.ref a) H'
abbrev sSum : Stmt := top 50
theorem scSum : FnScope ["_law_rows", "_law_up", "_law_down", "_law_one"] ["_law_rows"] (defScope sSum) := ⟨rfl, rfl, rfl, by decide +kernel, rfl, by decide +kernel, by decide +kernel⟩
def accS (p q : Int × Int) : Nat → Int × Int
  | 0 => (0, 1)
  | 1 => p
  | _ => adds p q
theorem ok_sum {f : Addr} {fd : FuncData} (F : Fun K "_law_sum" "_law_sum" sSum f fd) (c1 : Cal P w K mg base 1 "_law_lowest" ["_law_up", "_law_down"] spLowW) : FnOk P w K mg base CX0 2 f fd ["_law_rows"] (spSum K) := by
  refine F.ok scSum (fun vs H Q E h => ?_) (fun cdv A outer s H vs Q E hr h => ?_)
  · obtain ⟨l, x, y, p, q, rfl, _⟩ := h; rfl
  · obtain ⟨l, x, y, p, q, rfl, hl, fx, fy, sp, sq, k⟩ := h
    have nd := scSum.nd
    refine ⟨_, pss_cons (ps_set (i := 1) nd rfl (Or.inl rfl) pe_int) (pss_cons (ps_set (i := 2) nd rfl (Or.inl rfl) pe_int)
      (pss_cons (ps_for PassesOwn.never rfl (pi_list (pv 0)) (pg_name (i := 3) nd rfl (Or.inl rfl))
        (pss_one (ps_asg (pe_cal c1 hr rfl (pa_cons (pe_op op_add (pe_op op_mul (pv 1) (pe_ix ix_tup (pv 3) pe_int (fun _ _ => rfl))) (pe_op op_mul (pe_ix ix_tup (pv 3) pe_int (fun _ _ => rfl)) (pv 2))) (pa_cons (pe_op op_mul (pv 2) (pe_ix ix_tup (pv 3) pe_int (fun _ _ => rfl))) pa_nil)))
          (pg_tup (n := 2) rfl (pgs_cons (pg_name (i := 1) nd rfl (Or.inl rfl)) (pgs_cons (pg_name (i := 2) nd rfl (Or.inl rfl)) pgs_nil))))))
      (pss_one (ps_ret (pe_tup (pa_cons (pv 1) (pa_cons (pv 2) pa_nil))))))), ?_⟩
    refine ⟨_, rfl, ⟨l, rfl, ⟨_, .of hl⟩, ?_⟩⟩
    have wp := sp.wd
    have wq := sq.wd
    refine for_known (known_list K l [x, y]) (fun i σ H' => (∃ z : Option V, σ = [some (.ref l), some (.int (accS p q i).1), some (.int (accS p q i).2), z]) ∧ Same H H') ⟨⟨_, rfl⟩, Same.refl _⟩ (fun i σ H' _ h => .of (h.2 _ _ hl)) ?_ ?_
    · rintro i v σ H' Nx hN hx ⟨⟨z, rfl⟩, sm⟩
      obtain ⟨r, fr, wr, wa, ea⟩ : ∃ r, FrA K H' v r ∧ Wd r ∧ Wd (accS p q i) ∧ accS p q (i + 1) = adds (accS p q i) r := by
        match i, hx with
        | 0, hx =>
          have : v = x := (Option.some.inj hx).symm
          subst this
          exact ⟨p, fx.same sm, wp, ⟨fq01, by show (0 : Int) < _; decide, by show (1 : Int) < _; decide⟩, (adds_zero sp.toFq).symm⟩
        | 1, hx =>
          have : v = y := (Option.some.inj hx).symm
          subst this
          exact ⟨q, fy.same sm, wq, wp, rfl⟩
        | n + 2, hx => simp at hx
      obtain ⟨b, rfl, hb⟩ := fr
      have a0 := wa.up; have a1 := wa.dn; have r0 := wr.up; have r1 := wr.dn
      refine ⟨_, rfl, _, rfl, b, _, 1, _, rfl, rfl, hb, rfl, _, _, rfl, rfl, cmW a0 wa.u1 _, ?_⟩
      refine ⟨_, rfl, b, _, 0, _, rfl, rfl, hb, rfl, _, rfl, _, _, rfl, rfl, cmW r0 wr.u1 _, _, _, rfl, rfl, ?_⟩
      refine ⟨_, rfl, _, rfl, b, _, 1, _, rfl, rfl, hb, rfl, _, _, rfl, rfl, cmW (Int.le_of_lt a1) wa.d1 _, ?_⟩
      refine ⟨_, _, rfl, Int.add_nonneg (Int.mul_nonneg a0 (Int.le_of_lt r1)) (Int.mul_nonneg r0 (Int.le_of_lt a1)), Int.mul_pos a1 r1, Wd.prod wa wr, fun c hc => ?_⟩
      refine ⟨c, _, rfl, .of upd_same, rfl, _, _, rfl, _, _, rfl, rfl, ?_⟩
      refine hN _ _ ⟨⟨some (.ref b), ?_⟩, sm.trans (Same.upd1 hc)⟩
      rw [ea]
      rfl
    · rintro σ H' ⟨⟨z, rfl⟩, sm⟩
      refine ⟨_, rfl, _, rfl, by show 2 ≤ sizeLine; decide, fun c hc => ?_⟩
      exact k c _ (sm.trans (Same.upd1 hc)) upd_same
def spFit2 (K : PySem.W.Frag) : Sp := fun vs H Q _ => ∃ (x y : V) (p q : Int × Int), vs = [x, y] ∧ FrA K H x p ∧ FrA K H y q ∧ Sm p ∧ Sm q ∧ p.1 * q.2 ≤ q.1 * p.2 ∧ ∀ H', Same H H' → Q (.bl true) H'
abbrev sFit : Stmt := top 54
theorem scFit : FnScope ["_law_one", "_law_other"] ["_law_one", "_law_other"] (defScope sFit) := ⟨rfl, rfl, rfl, by decide +kernel, rfl, by decide +kernel, by decide +kernel⟩
theorem fr_eq {p q : Int × Int} (h : PyData.eqv (frD p) (frD q) = true) : p = q := by
  unfold frD at h
  simp [PyData.eqv, PyData.eqvAll] at h
  exact Prod.ext h.1 h.2
theorem fr_sh (q : Int × Int) : SeqAt.shaped (.tuple [.int q.1, .int q.2]) = true ∧ (PyData.tuple [.int q.1, .int q.2]).canLay0 = true := ⟨rfl, rfl⟩
theorem ok_fit {f : Addr} {fd : FuncData} (F : Fun K "_law_fractions_fit" "_law_fractions_fit" sFit f fd) (cA : Cal P w K mg base 3 "added" ["one", "other"] (spAddedW K)) (cT : Cal P w K mg base 3 "less" ["one", "other"] (spTakenW K)) (cL : Cal P w K mg base 1 "is_less" ["one", "other"] (spLessW K))
    (cS : Cal P w K mg base 2 "_law_sum" ["_law_rows"] (spSum K)) : FnOk P w K mg base CX0 4 f fd ["_law_one", "_law_other"] (spFit2 K) := by
  refine F.ok scFit (fun vs H Q E h => ?_) (fun cdv A outer s H vs Q E hr h => ?_)
  · obtain ⟨x, y, p, q, rfl, _⟩ := h; rfl
  · obtain ⟨x, y, p, q, rfl, fx, fy, sp, sq, hle, k⟩ := h
    have hu := hr.units
    have hr2 := hr.mono (j := 2) (by decide)
    have hr1 := hr.mono (j := 1) (by decide)
    refine ⟨_, pss_cons (ps_if (PW.pt (pw_or (pt_cmpR (op_neD hu) (pe_cal cA hr rfl (pa_cons (pv 0) (pa_cons (pv 1) pa_nil))) (pe_cal cS hr2 rfl (pa_cons (pe_lst (pa_cons (pv 0) (pa_cons (pv 1) pa_nil))) pa_nil)) (nomark _))
        (pw_or1 (pt_cmpR (op_neD hu) (pe_cal cA hr rfl (pa_cons (pe_cal cT hr rfl (pa_cons (pv 1) (pa_cons (pv 0) pa_nil))) (pa_cons (pv 0) pa_nil))) (pv 1) (nomark _))))) (pss_one (ps_ret pe_bl)) pss_nil)
      (pss_one (ps_ret (pe_and (pe_cmpR op_eq (pe_cal cL hr1 rfl (pa_cons (pv 0) (pa_cons (pv 1) pa_nil))) (pe_cmpR (op_neD hu) (pv 0) (pv 1) (nomark _)) (nomark _)) (pe_one (pe_not (pe_cal cL hr1 rfl (pa_cons (pv 1) (pa_cons (pv 0) pa_nil)))))))), ?_⟩
    have wp := sp.wd
    have wq := sq.wd
    refine ⟨_, rfl, _, rfl, x, y, p, q, rfl, fx, fy, wp, wq, fun a1 h1 => ?_⟩
    have s1 := Same.upd1 (o := frO (adds p q)) h1
    have fa1 : FrA K (upd H a1 (frO (adds p q))) (.ref a1) (adds p q) := FrA.new
    generalize upd H a1 (frO (adds p q)) = H1 at s1 fa1 ⊢
    refine ⟨_, rfl, _, rfl, by show 2 ≤ sizeLine; decide, fun l hl => ?_⟩
    have s2 := Same.upd1 (o := .lst [x, y]) hl
    refine ⟨l, x, y, p, q, rfl, upd_same, fx.same (s1.trans s2), fy.same (s1.trans s2), sp, sq, fun a2 H2 s3 h2 => ?_⟩
    have s13 := s2.trans s3
    refine ⟨_, _, (fa1.same s13).rep, FrA.rep (K := K) (v := .ref a2) (q := adds p q) ⟨a2, rfl, .of h2⟩, (fr_sh _).1, (fr_sh _).1, _, rfl, ite_ne (fr_sh _).2 ?_⟩
    have s02 := s1.trans s13
    have hsw : Wd (subs q p) := by
      have f := subs_fq sq.toFq sp.toFq hle
      obtain ⟨g1, g2⟩ := subs_le sq.toFq sp.toFq hle
      have i1 : q.1 ≤ 1073741823 := by have := sq.u1; omega
      have i2 : q.2 ≤ 1073741823 := by have := sq.d1; omega
      have i3 : p.2 ≤ 1073741823 := by have := sp.d1; omega
      have m1 := Int.mul_le_mul i1 i3 (Int.le_of_lt sp.dn) (by decide)
      have m2 := Int.mul_le_mul i2 i3 (Int.le_of_lt sp.dn) (by decide)
      exact ⟨f, by omega, by omega⟩
    refine ⟨_, rfl, _, rfl, y, x, q, p, rfl, fy.same s02, fx.same s02, wq, wp, hle, fun a3 h3 => ?_⟩
    have s4 := Same.upd1 (o := frO (subs q p)) h3
    refine ⟨_, rfl, .ref a3, x, subs q p, p, rfl, FrA.new, fx.same (s02.trans s4), hsw, wp, fun a4 h4 => ?_⟩
    have s05 := (s02.trans s4).trans (Same.upd1 (o := frO (adds (subs q p) p)) h4)
    have fa4 : FrA K (upd (upd H2 a3 (frO (subs q p))) a4 (frO (adds (subs q p) p))) (.ref a4) (adds (subs q p) p) := FrA.new
    generalize upd (upd H2 a3 (frO (subs q p))) a4 (frO (adds (subs q p) p)) = H6 at s05 fa4 ⊢
    rw [adds_subs sp.toFq sq.toFq hle] at fa4
    refine ⟨_, rfl, _, _, fa4.rep, (fy.same s05).rep, (fr_sh _).1, (fr_sh _).1, _, rfl, ite_ne (fr_sh _).2 ?_⟩
    have fx5 := fx.same s05
    have fy5 := fy.same s05
    have fin := k _ s05
    refine ⟨_, rfl, _, rfl, x, y, p, q, rfl, fx5, fy5, wp, wq, ?_⟩
    refine ⟨_, rfl, _, rfl, _, _, fx5.rep, fy5.rep, (fr_sh _).1, (fr_sh _).1, ?_⟩
    have e1 : (if true = true then !PyData.eqv (.tuple [.int p.1, .int p.2]) (.tuple [.int q.1, .int q.2]) else PyData.eqv (.tuple [.int p.1, .int p.2]) (.tuple [.int q.1, .int q.2])) = lss p q := by
      rw [if_pos rfl]
      by_cases hpq : p = q
      · subst hpq
        rw [eqv_refl _ (fr_sh _).2, lss_irr]; rfl
      · have h1 : PyData.eqv (frD p) (frD q) = false := by
          cases h : PyData.eqv (frD p) (frD q) with
          | false => rfl
          | true => exact absurd (fr_eq h) hpq
        have h1' : PyData.eqv (.tuple [.int p.1, .int p.2]) (.tuple [.int q.1, .int q.2]) = false := h1
        rw [h1']
        have h2 : p.1 * q.2 ≠ q.1 * p.2 := fun z => hpq (Fq.ext sp.toFq sq.toFq z)
        unfold lss
        rw [decide_eq_true (by omega)]; rfl
    rw [e1]
    refine ⟨rfl, _, rfl, ?_⟩
    rw [decide_eq_true rfl]
    refine iteT ⟨_, rfl, _, rfl, y, x, q, p, rfl, fy5, fx5, wq, wp, _, rfl, ?_⟩
    have e2 : lss q p = false := by unfold lss; exact decide_eq_false (by omega)
    rw [e2]
    exact fin
end
end Kn
end
section
set_option Elab.async false
set_option linter.all false
set_option maxRecDepth 100000
set_option maxHeartbeats 1000000
namespace Kn
open PySem L2
section
variable {P : Program} {w : World} {K : PySem.W.Frag} {mg : Str → Option Value} {base : Heap}
def spShareL (K : PySem.W.Frag) : Sp := fun vs H Q _ => ∃ (a : Addr) (bk : List S) (o : Nat) (nm : S), vs = [.ref a, .int o, sv nm] ∧ H a = some (.tup (bkV bk)) ∧ Fit bk o nm ∧ (pairsB o bk).length < 64 ∧
  ∀ v H', Same H H' → FrA K H' v (shareOf (pairsB o bk) o nm) → Q v H'
def spBest : Sp := fun vs H Q _ => ∃ (a : Addr) (bk : List S) (o : Nat) (x y : S), vs = [.ref a, .int o, sv x, sv y] ∧ H a = some (.tup (bkV bk)) ∧ Fit bk o x ∧ Fit bk o y ∧ (pairsB o bk).length < 64 ∧
  ∀ H', Same H H' → Q (sv (lkl (shareOf (pairsB o bk) o x) (shareOf (pairsB o bk) o y) x y)) H'
abbrev sBest : Stmt := top 55
theorem scBest : FnScope ["_law_book_here", "_law_order", "_law_name_here", "_law_other", "_law_mine", "_law_yours"] ["_law_book_here", "_law_order", "_law_name_here", "_law_other"] (defScope sBest) := ⟨rfl, rfl, rfl, by decide +kernel, rfl, by decide +kernel, by decide +kernel⟩
theorem ok_best {f : Addr} {fd : FuncData} (F : Fun K "_law_best" "_law_best" sBest f fd) (B : Blt mg) (cS : Cal P w K mg base 3 "_law_share" ["_law_book_here", "_law_order", "_law_name_here"] (spShareL K)) : FnOk P w K mg base CX0 4 f fd ["_law_book_here", "_law_order", "_law_name_here", "_law_other"] spBest := by
  refine F.ok scBest (fun vs H Q E h => ?_) (fun cdv A outer s H vs Q E hr h => ?_)
  · obtain ⟨a, bk, o, x, y, rfl, _⟩ := h; rfl
  · obtain ⟨a, bk, o, x, y, rfl, ha, hx, hy, h64, k⟩ := h
    have hu := hr.units
    have nd := scBest.nd
    refine ⟨_, pss_cons (ps_set (i := 4) nd rfl (Or.inl rfl) (pe_cal cS hr rfl (pa_cons (pv 0) (pa_cons (pv 1) (pa_cons (pv 2) pa_nil)))))
      (pss_cons (ps_set (i := 5) nd rfl (Or.inl rfl) (pe_cal cS hr rfl (pa_cons (pv 0) (pa_cons (pv 1) (pa_cons (pv 3) pa_nil)))))
      (pss_cons (ps_if (pt_cmpR (op_eqD hu) (pv 4) (pv 5) (nomark _)) (pss_one (ps_ret (pe_callB (call_minS rfl) (by rfl) B.min PyProof.Rows.boot_min (pa_cons (pv 2) (pa_cons (pv 3) pa_nil))))) pss_nil)
      (pss_one (ps_ret (pe_ifExp (pt_cmpR op_gt (pe_op op_mul (pe_ix ix_tup (pv 4) pe_int (fun _ _ => rfl)) (pe_ix ix_tup (pv 5) pe_int (fun _ _ => rfl))) (pe_op op_mul (pe_ix ix_tup (pv 5) pe_int (fun _ _ => rfl)) (pe_ix ix_tup (pv 4) pe_int (fun _ _ => rfl))) (nomark _)) (pv 2) (pv 3)))))), ?_⟩
    have pl := pairs_len hx.toBk
    have sx := share_sm (o := o) pl.1 hx.pw
    have sy := share_sm (o := o) pl.1 hy.pw
    refine ⟨_, rfl, _, rfl, _, rfl, a, bk, o, x, rfl, ha, hx, h64, fun v H1 s1 fv => ?_⟩
    refine ⟨_, rfl, _, rfl, _, rfl, a, bk, o, y, rfl, s1 _ _ ha, hy, h64, fun u H2 s2 fu => ?_⟩
    have fv2 := fv.same s2
    have fin := k H2 (s1.trans s2)
    generalize shareOf (pairsB o bk) o x = p at *
    generalize shareOf (pairsB o bk) o y = q at *
    refine ⟨_, rfl, _, rfl, _, _, fv2.rep, fu.rep, (fr_sh _).1, (fr_sh _).1, _, rfl, ?_⟩
    by_cases hpq : p = q
    · subst hpq
      have e1 : (if false = true then !PyData.eqv (.tuple [.int p.1, .int p.2]) (.tuple [.int p.1, .int p.2]) else PyData.eqv (.tuple [.int p.1, .int p.2]) (.tuple [.int p.1, .int p.2])) = true := by
        rw [if_neg Bool.false_ne_true]; exact eqv_refl _ (fr_sh _).2
      rw [e1]
      refine iteT ⟨_, rfl, _, rfl, _, _, rfl, ?_⟩
      unfold lkl at fin
      rw [if_neg (by rw [lss_irr]; decide), if_neg (by rw [lss_irr]; decide)] at fin
      unfold min2 at fin
      rw [tx_cps, tx_cps]
      by_cases c3 : y < x
      · rw [if_pos c3] at fin ⊢; exact fin
      · rw [if_neg c3] at fin ⊢; exact fin
    · have h1 : PyData.eqv (frD p) (frD q) = false := by
        cases h : PyData.eqv (frD p) (frD q) with
        | false => rfl
        | true => exact absurd (fr_eq h) hpq
      have e1 : (if false = true then !PyData.eqv (.tuple [.int p.1, .int p.2]) (.tuple [.int q.1, .int q.2]) else PyData.eqv (.tuple [.int p.1, .int p.2]) (.tuple [.int q.1, .int q.2])) = false := by
        rw [if_neg Bool.false_ne_true]; exact h1
      rw [e1]
      refine iteF ?_
      have h2 : p.1 * q.2 ≠ q.1 * p.2 := fun z => hpq (Fq.ext sx.toFq sy.toFq z)
      obtain ⟨b, rfl, hb⟩ := fv2
      obtain ⟨c, rfl, hc⟩ := fu
      refine ⟨_, rfl, b, _, 0, _, rfl, rfl, hb, rfl, _, rfl, c, _, 1, _, rfl, rfl, hc, rfl, _, _, rfl, rfl, cm sx.up sx.u1 _, ?_⟩
      refine ⟨_, rfl, c, _, 0, _, rfl, rfl, hc, rfl, _, rfl, b, _, 1, _, rfl, rfl, hb, rfl, _, _, rfl, rfl, cm sy.up sy.u1 _, _, _, rfl, rfl, _, rfl, ?_⟩
      unfold lkl lss at fin
      by_cases c1 : q.1 * p.2 < p.1 * q.2
      · refine iteD c1 ⟨_, rfl, ?_⟩
        rw [if_neg (by rw [decide_eq_false (by omega)]; decide), if_pos (decide_eq_true c1)] at fin
        exact fin
      · refine iteDF c1 ⟨_, rfl, ?_⟩
        rw [if_pos (decide_eq_true (by omega))] at fin
        exact fin
end
end Kn
end
section
set_option Elab.async false
set_option linter.all false
set_option maxRecDepth 100000
set_option maxHeartbeats 1000000
namespace Kn
open PySem L2
theorem part_low (ps : List (S × S)) (e l : S) : part ps e l = low (ps.count (e, l) : Int) (if (tot ps e : Int) > 1 then (tot ps e : Int) else 1) := by
  have h := count_le_tot ps e l
  unfold part
  by_cases c : ps.count (e, l) = 0
  · rw [if_pos c, c]
    show (0, 1) = low 0 _
    rw [low_zero]
    split <;> omega
  · rw [if_neg c]
    have : (if (tot ps e : Int) > 1 then (tot ps e : Int) else 1) = (tot ps e : Int) := by split <;> omega
    rw [this]
theorem tms_low_aux {a b c d u v x y : Int} (h1 : a * v = u * b) (h2 : c * y = x * d) : a * c * (v * y) = u * x * (b * d) := by grind
theorem tms_low {u v x y : Int} (hu : 0 ≤ u) (hv : 0 < v) (hx : 0 ≤ x) (hy : 0 < y) : tms (low u v) (low x y) = low (u * x) (v * y) := by
  have f := low_fq hu hv
  have g := low_fq hx hy
  exact low_ext (Int.mul_nonneg f.up g.up) (Int.mul_pos f.dn g.dn) (Int.mul_nonneg hu hx) (Int.mul_pos hv hy) (tms_low_aux (low_cross hv) (low_cross hy))
section
variable {P : Program} {w : World} {K : PySem.W.Frag} {mg : Str → Option Value} {base : Heap}
theorem row_at {row : List (S × Int)} {i : Nat} {x : V} (h : ((rowV row).map fun p => kV p.1)[i]? = some x) : ∃ (hi : i < row.length), x = sv row[i].1 := by
  unfold rowV encD encK at h
  rw [List.getElem?_map, List.getElem?_map, List.getElem?_map] at h
  cases e : row[i]? with
  | none => rw [e] at h; cases h
  | some q =>
    rw [e] at h
    obtain ⟨hi, e2⟩ := List.getElem?_eq_some_iff.mp e
    refine ⟨hi, ?_⟩
    rw [e2]
    exact (Option.some.inj h).symm
theorem thaw_row {σ : St} {H : Hp} {Q : V → Hp → Prop} {n : Nat} {ra : Addr} {row : List (S × Int)} (hσ : σ[n]? = some (some (.ref ra))) (hr : H ra = some (.dK (rowV row))) (hnd : (row.map (·.1)).Nodup) (hl : row.length < 1000)
    (k : ∀ D H', Same H H' → H' D = some (.lst ((row.map (·.2)).map V.int)) → Q (.ref D) H') : tThaw (tComp (iDict (tVar n)) (gName 1) tYes (tDGet (tVar 0) (tVar 1)) [n] 2) σ H Q := by
  refine ⟨ra, rowV row, hr, _, hσ, ra, _, rfl, hr, fun o => ?_⟩
  have hlen : ((rowV row).map fun p => kV p.1).length = row.length := by rw [List.length_map]; exact encD_len _ _
  refine comp_known0 (known_dict ra o (rowV row)) [some (.ref ra)] 1 (by rw [hlen]; exact hl) (fun i acc H' => H' = upd H ra (.frz o (.dK (rowV row))) ∧ acc = ((row.take i).map (·.2)).map V.int) ⟨rfl, rfl⟩ (fun i acc H' _ h => ⟨by rw [h.1, upd_same], by rw [h.2, List.length_map, List.length_map, List.length_take]; omega⟩) ?_ ?_ (by simp [capStart, hσ])
  · rintro i x acc H' ys Nx hN hx hy ⟨rfl, rfl⟩
    obtain ⟨y', rfl⟩ := ys1 hy
    obtain ⟨hi, rfl⟩ := row_at hx
    refine ⟨_, rfl, _, rfl, ra, .int row[i].2, rfl, .inl ⟨rowV row, Sum.inr (tx row[i].1), .inr ⟨o, upd_same⟩, rfl, ?_⟩, hN _ _ [some (sv row[i].1)] rfl ⟨rfl, ?_⟩⟩
    · unfold rowV
      have hg : getA row row[i].1 = some row[i].2 := (getA_mem hnd _ _).mp (List.getElem_mem hi)
      rw [val_enc, hg]; rfl
    · rw [List.take_succ_eq_append_getElem hi, List.map_append, List.map_append]; rfl
  · rintro acc H' ⟨rfl, rfl⟩ D hD
    rw [hlen, List.take_length]
    have hne : ra ≠ D := fun z => by rw [← z, upd_same] at hD; cases hD
    have hDH : H D = none := by rw [upd_ne hne.symm] at hD; exact hD
    refine ⟨o, by rw [upd_ne hne, upd_same], k D _ (fun b u q => ?_) (by rw [upd_ne hne.symm, upd_same])⟩
    by_cases hb : b = ra
    · subst hb; rw [upd_same, ← q, hr]
    · rw [upd_ne hb, upd_ne (ne_of_none q hDH), upd_ne hb]; exact q
theorem rowOf_len (ps : List (S × S)) (e : S) : (rowOf ps e).length ≤ ps.length := by
  have h1 := rowOf_total ps e
  have h2 : ∀ p ∈ rowOf ps e, (1 : Int) ≤ p.2 := fun p hp => by
    have := ((rowOf_mem ps e p.1 p.2).mp hp).2
    omega
  have go : ∀ l : List (S × Int), (∀ p ∈ l, (1 : Int) ≤ p.2) → (l.length : Int) ≤ (l.map (·.2)).sum := by
    intro l
    induction l with
    | nil => intro _; simp
    | cons x r ih =>
      intro hl
      have h1 := hl x (List.mem_cons_self ..)
      have h2 := ih fun y hy => hl y (List.mem_cons_of_mem _ hy)
      rw [List.map_cons, List.sum_cons, List.length_cons]
      have : ((r.length + 1 : Nat) : Int) = (r.length : Int) + 1 := rfl
      omega
  have h3 := go _ h2
  have h4 : tot ps e ≤ ps.length := List.length_filter_le ..
  omega
abbrev sShareL : Stmt := top 49
theorem scShareL : FnScope ["_law_book_here", "_law_order", "_law_name_here", "_law_up", "_law_down", "_law_size", "_law_row_here"] ["_law_book_here", "_law_order", "_law_name_here"] (defScope sShareL) := ⟨rfl, rfl, rfl, by decide +kernel, rfl, by decide +kernel, by decide +kernel⟩
theorem ndSL : (["_law_row_here", "_law_letter"] : List Str).Nodup := by decide +kernel
theorem ok_shareL {f : Addr} {fd : FuncData} (F : Fun K "_law_share" "_law_share" sShareL f fd) (B : Blt mg) (B2 : Blt2 mg) (cR : Cal P w K mg base 2 "_law_row" ["_law_book_here", "_law_order", "_law_text"] spRowL) (cL : Cal P w K mg base 1 "_law_lowest" ["_law_up", "_law_down"] spLowW) :
    FnOk P w K mg base CX0 3 f fd ["_law_book_here", "_law_order", "_law_name_here"] (spShareL K) := by
  refine F.ok scShareL (fun vs H Q E h => ?_) (fun cdv A outer s H vs Q E hr h => ?_)
  · obtain ⟨a, bk, o, nm, rfl, _⟩ := h; rfl
  · obtain ⟨a, bk, o, nm, rfl, ha, hx, h64, k⟩ := h
    have hu := hu_of hr
    have nd := scShareL.nd
    have hr1 := hr.mono (j := 1) (by decide)
    refine ⟨_, pss_cons (ps_set (i := 3) nd rfl (Or.inl rfl) pe_int) (pss_cons (ps_set (i := 4) nd rfl (Or.inl rfl) pe_int)
      (pss_cons (ps_for PassesOwn.never rfl (pi_range1 rfl B.range (pa_cons (pe_op op_add (pe_callB call_len_str (by rfl) B.len PySem.boot_len (pa_cons (pv 2) pa_nil)) pe_int) pa_nil)) (pg_name (i := 5) nd rfl (Or.inl rfl))
        (pss_cons (ps_set (i := 6) nd rfl (Or.inr rfl) (pe_cal cR hr rfl (pa_cons (pv 0) (pa_cons (pv 1) (pa_cons (pe_sliceS (pv 2) po_none (po_some (pv 5))) pa_nil)))))
        (pss_cons (ps_set (i := 3) nd rfl (Or.inl rfl) (pe_op op_mul (pv 3) (pe_dget2 hu (pv 6) (pe_sliceS (pv 2) (po_some (pv 5)) (po_some (pe_op op_add (pv 5) pe_int))) pe_int ⟨rfl, rfl, rfl, rfl⟩)))
        (pss_one (ps_set (i := 4) nd rfl (Or.inl rfl) (pe_op op_mul (pv 4) (pe_callB (call_max2 rfl) (by rfl) B2.max PyProof.Rows.boot_max (pa_cons pe_int (pa_cons (pe_callB (call_sum rfl) (by rfl) B.sum PyProof.Rows.boot_sum (pa_cons
          (pe_thaw (pe_comp (N := ["_law_row_here", "_law_letter"]) (caps := [6]) rfl (compScope_of (by kernel_rfl)) (pi_dict (pv 6)) (fun cl X s H ex => pg_name (i := 1) ndSL rfl (Or.inl rfl)) (fun cl X s H ex => pf_nil) (fun cl X s H ex => pe_dget hu (pv 0) (pv 1) (fun _ _ => rfl)))) pa_nil)) pa_nil)))))))))
      (pss_one (ps_ret (pe_cal cL hr1 rfl (pa_cons (pv 3) (pa_cons (pv 4) pa_nil))))))), ?_⟩
    have pl := pairs_len hx.toBk
    have hb1 := hx.toBk.hi
    have hb2 := hx.toBk.l8
    have hnl := hx.nmn.2.1
    have hfin : ∀ v H', Same H H' → FrA K H' v (shareG (pairsB o bk) (pairs1 o nm)) → Q v H' := k
    have ho : 1 ≤ o := hx.toBk.o1
    have hpw := hx.pw
    generalize hps : pairsB o bk = ps at hfin pl hpw h64
    refine ⟨_, rfl, tx nm, rfl, by rw [tx_len, sizeLine_eq]; omega, _, _, rfl, rfl, _, rfl, by rw [tx_len]; omega, by rw [tx_len]; omega, ?_⟩
    have hnn : (((tx nm).length : Int) + 1).toNat = nm.length + 1 := by rw [tx_len]; omega
    refine for_known (known_range 0 _) (fun i σ H' => (∃ (U D : Int) (y z : Option V), σ = [some (.ref a), some (.int o), some (sv nm), some (.int U), some (.int D), y, z] ∧ 0 ≤ U ∧ 0 < D ∧ U ≤ D ∧ D ≤ (ps.length : Int) ^ i ∧ low U D = shareG ps ((pairs1 o nm).take i)) ∧ Same H H')
      ⟨⟨1, 1, _, _, rfl, by decide, by decide, by decide, by simp, by simp [shareG, low_self]⟩, Same.refl H⟩ (fun _ _ _ _ _ => trivial) ?_ ?_
    · rintro i x σ H' Nx hN hx2 ⟨⟨U, D, y, z, rfl, u0, d0, ud, dp, hlow⟩, sm⟩
      rw [hnn] at hx2
      obtain ⟨hi, rfl⟩ := range_item hx2
      have ep := pairs1_get (o := o) hi
      have hi' : i < (pairs1 o nm).length := by rw [pairs1_len']; exact hi
      have etk : (pairs1 o nm).take (i + 1) = (pairs1 o nm).take i ++ [(endOf (nm.take i) o, (nm.drop i).take 1)] := by
        rw [List.take_succ_eq_append_getElem hi', (List.getElem?_eq_some_iff.mp ep).2]
      have dlt : D < 1073741824 := by
        have e1 : ps.length ^ i ≤ ps.length ^ (nm.length + 1) := Nat.pow_le_pow_right pl.1 (by omega)
        have e2 : ((ps.length ^ i : Nat) : Int) = (ps.length : Int) ^ i := by simp
        omega
      refine ⟨_, rfl, _, rfl, _, rfl, _, rfl, _, rfl, tx nm, rfl, by rw [tx_len, sizeLine_eq]; omega, a, bk, o, nm.take i, by rw [cut_to]; rfl, sm _ _ ha, hb1, hb2, ho, by rw [List.length_take]; omega, fun ra H2 s2 hra => ?_⟩
      rw [hps] at hra
      generalize hend : endOf (nm.take i) o = e at hra etk
      generalize hlet : (nm.drop i).take 1 = l at etk
      have tle : tot ps e ≤ ps.length := List.length_filter_le ..
      have cle := count_le_tot ps e l
      refine ⟨_, rfl, _, rfl, ra, rfl, .inl ⟨_, .inl hra⟩, _, rfl, _, rfl, _, rfl, _, rfl, _, _, rfl, rfl, _, rfl, tx nm, rfl, by rw [tx_len, sizeLine_eq]; omega, ?_⟩
      rw [cut_one, hlet]
      have hval : valV (rowV (rowOf ps e)) (Sum.inr (tx l)) = (getA (rowOf ps e) l).map V.int := val_enc _ _ _
      refine ⟨_, DGet.k (k := Sum.inr (tx l)) hra, U, (ps.count (e, l) : Int), rfl, ?_, cmW u0 (by omega) _, ?_⟩
      · rw [hval, rowOf_get]
        by_cases c : 0 < ps.count (e, l)
        · rw [if_pos c]; rfl
        · rw [if_neg c, show ps.count (e, l) = 0 by omega]; rfl
      refine ⟨_, rfl, thaw_row rfl hra (rowOf_nd _ _) (by have := rowOf_len ps e; omega) fun Dl H3 s3 hD => ?_⟩
      refine ⟨Dl, (rowOf ps e).map (·.2), rfl, .of hD, 1, _, rfl, D, _, rfl, rfl, cmW (by omega) (by omega) _, ?_⟩
      rw [rowOf_total]
      have hT : (if (tot ps e : Int) > 1 then (tot ps e : Int) else 1) = (if (tot ps e : Int) > 1 then (tot ps e : Int) else 1) := rfl
      have hp := part_low ps e l
      generalize hTT : (if (tot ps e : Int) > 1 then (tot ps e : Int) else 1) = T at hp
      have t1 : 1 ≤ T := by rw [← hTT]; split <;> omega
      have t2 : T ≤ (ps.length : Int) := by rw [← hTT]; split <;> omega
      have t3 : (ps.count (e, l) : Int) ≤ T := by rw [← hTT]; split <;> omega
      refine hN _ _ ⟨⟨U * (ps.count (e, l) : Int), D * T, _, _, rfl, Int.mul_nonneg u0 (by omega), Int.mul_pos d0 (by omega), ?_, ?_, ?_⟩, (sm.trans s2).trans s3⟩
      · exact Int.mul_le_mul ud t3 (by omega) (by omega)
      · rw [Int.pow_succ]
        exact Int.mul_le_mul dp t2 (by omega) (Int.pow_nonneg (by omega))
      · rw [etk, shareG_snoc, ← hlow, hp]
        exact (tms_low u0 d0 (by omega) (by omega)).symm
    · rintro σ H' ⟨⟨U, D, y, z, rfl, u0, d0, ud, dp, hlow⟩, sm⟩
      rw [List.length_map, List.length_range, hnn] at dp hlow
      rw [← pairs1_len' o nm, List.take_length] at hlow
      have dlt : D < 1073741824 := by
        have e2 : ((ps.length ^ (nm.length + 1) : Nat) : Int) = (ps.length : Int) ^ (nm.length + 1) := by simp
        omega
      refine ⟨_, rfl, _, rfl, U, D, rfl, u0, d0, by omega, fun p hp => hfin _ _ (sm.upd_new (sm.free hp)) ?_⟩
      rw [← hlow]
      exact FrA.new
end
end Kn
end
section
set_option Elab.async false
set_option linter.all false
set_option maxRecDepth 100000
set_option maxHeartbeats 1000000
namespace Kn
open PySem L2
def SameT (H H' : Hp) : Prop := ∀ b o, H b = some o → (∀ xs, o ≠ .lst xs) → H' b = some o
theorem SameT.upd {H : Hp} {a : Addr} {xs ys : List V} (h : H a = some (.lst xs)) : SameT H (upd H a (.lst ys)) := fun b o e hn => by
  rw [upd_ne]
  · exact e
  · rintro rfl; rw [h] at e; exact hn xs (Option.some.inj e).symm
theorem SameT.sqT {K : PySem.W.Frag} {H H' : Hp} (e : SameT H H') {a : Addr} {xs : List V} (h : SqT K H a xs) : SqT K H' a xs := by
  rcases h with (h | ⟨o, h⟩) | h
  · exact .inl (.inl (e _ _ h (by intro z w; cases w)))
  · exact .inl (.inr ⟨o, e _ _ h (by intro z w; cases w)⟩)
  · exact .inr h
mutual
def noL : PyData → Bool
  | .list _ => false
  | .tuple ds => noLs ds
  | _ => true
def noLs : List PyData → Bool
  | [] => true
  | d :: ds => noL d && noLs ds
end
mutual
theorem Rep.sameT {K : PySem.W.Frag} {H H' : Hp} (e : SameT H H') : ∀ (d : PyData) (v : V), noL d = true → Rep K H d v → Rep K H' d v
  | .none, v, _, h => h
  | .bool b, v, _, h => h
  | .int i, v, _, h => h
  | .str x, v, _, h => h
  | .list ds, v, n, h => by cases n
  | .tuple ds, v, n, h => by
    obtain ⟨a, xs, h1, h2, h3⟩ := h
    exact ⟨a, xs, h1, e.sqT h2, Reps.sameT e ds xs n h3⟩
  | .dict _, v, _, h => h
theorem Reps.sameT {K : PySem.W.Frag} {H H' : Hp} (e : SameT H H') : ∀ (ds : List PyData) (xs : List V), noLs ds = true → Reps K H ds xs → Reps K H' ds xs
  | [], xs, _, h => h
  | d :: ds, xs, n, h => by
    obtain ⟨y, ys, h1, h2, h3⟩ := h
    simp only [noLs, Bool.and_eq_true] at n
    exact ⟨y, ys, h1, Rep.sameT e d y n.1 h2, Reps.sameT e ds ys n.2 h3⟩
end
theorem noLs_map {α : Type} (f : α → PyData) (h : ∀ a, noL (f a) = true) : ∀ l : List α, noLs (l.map f) = true
  | [] => rfl
  | a :: l => by rw [List.map_cons]; simp only [noLs, h a, noLs_map f h l, Bool.and_self]
theorem part_some {ps : List (S × S)} {e l : S} (h : 0 < ps.count (e, l)) : part ps e l = low (ps.count (e, l) : Int) (tot ps e : Int) := by
  unfold part; rw [if_neg (by omega)]
theorem ifK {b : Bool} {σ : St} {H : Hp} {tA tB : TE} {Kk : V → Hp → Prop} (Pc : V → Hp → Prop) (hc : ∀ v H', Pc v H' → Kk v H') (hA : b = true → (∀ v H', Pc v H' → Kk v H') → tA σ H Kk) (hB : b = false → (∀ v H', Pc v H' → Kk v H') → tB σ H Kk) : if b = true then tA σ H Kk else tB σ H Kk := by
  cases b with
  | true => exact iteT (hA rfl hc)
  | false => exact iteF (hB rfl hc)
section
variable {P : Program} {w : World} {K : PySem.W.Frag} {mg : Str → Option Value} {base : Heap}
def spStepsL (K : PySem.W.Frag) : Sp := fun vs H Q _ => ∃ (a : Addr) (bk : List S) (o : Nat) (nm : S), vs = [.ref a, .int o, sv nm] ∧ H a = some (.tup (bkV bk)) ∧ Bk bk o ∧ isNm nm ∧ (pairsB o bk).length < 64 ∧
  ∀ l xs H', Same H H' → H' l = some (.lst xs) → Reps K H' ((pairs1 o nm).map (stD (pairsB o bk))) xs → Q (.ref l) H'
abbrev sStepsL : Stmt := top 56
theorem scStepsL : FnScope ["_law_book_here", "_law_order", "_law_name_here", "_law_due", "_law_size", "_law_row_here", "_law_letter", "_law_whole", "_law_part"] ["_law_book_here", "_law_order", "_law_name_here"] (defScope sStepsL) := ⟨rfl, rfl, rfl, by decide +kernel, rfl, by decide +kernel, by decide +kernel⟩
theorem ndSt : (["_law_row_here", "_law_one"] : List Str).Nodup := by decide +kernel
theorem ok_stepsL {f : Addr} {fd : FuncData} (F : Fun K "_law_steps" "_law_steps" sStepsL f fd) (B : Blt mg) (cR : Cal P w K mg base 2 "_law_row" ["_law_book_here", "_law_order", "_law_text"] spRowL) (cL : Cal P w K mg base 1 "_law_lowest" ["_law_up", "_law_down"] spLowW) :
    FnOk P w K mg base CX0 3 f fd ["_law_book_here", "_law_order", "_law_name_here"] (spStepsL K) := by
  refine F.ok scStepsL (fun vs H Q E h => ?_) (fun cdv A outer s H vs Q E hr h => ?_)
  · obtain ⟨a, bk, o, nm, rfl, _⟩ := h; rfl
  · obtain ⟨a, bk, o, nm, rfl, ha, hb, hnm, h64, k⟩ := h
    have hu := hu_of hr
    have nd := scStepsL.nd
    have hr1 := hr.mono (j := 1) (by decide)
    refine ⟨_, pss_cons (ps_set (i := 3) nd rfl (Or.inl rfl) (pe_lst pa_nil))
      (pss_cons (ps_for PassesOwn.never rfl (pi_range1 rfl B.range (pa_cons (pe_op op_add (pe_callB call_len_str (by rfl) B.len PySem.boot_len (pa_cons (pv 2) pa_nil)) pe_int) pa_nil)) (pg_name (i := 4) nd rfl (Or.inl rfl))
        (pss_cons (ps_set (i := 5) nd rfl (Or.inr rfl) (pe_cal cR hr rfl (pa_cons (pv 0) (pa_cons (pv 1) (pa_cons (pe_sliceS (pv 2) po_none (po_some (pv 4))) pa_nil)))))
        (pss_cons (ps_set (i := 6) nd rfl (Or.inl rfl) (pe_sliceS (pv 2) (po_some (pv 4)) (po_some (pe_op op_add (pv 4) pe_int))))
        (pss_cons (ps_set (i := 7) nd rfl (Or.inl rfl) (pe_callB (call_sum rfl) (by rfl) B.sum PyProof.Rows.boot_sum (pa_cons
          (pe_thaw (pe_comp (N := ["_law_row_here", "_law_one"]) (caps := [5]) rfl (compScope_of (by kernel_rfl)) (pi_dict (pv 5)) (fun cl X s H ex => pg_name (i := 1) ndSt rfl (Or.inl rfl)) (fun cl X s H ex => pf_nil) (fun cl X s H ex => pe_dget hu (pv 0) (pv 1) (fun _ _ => rfl)))) pa_nil)))
        (pss_cons (ps_set (i := 8) nd rfl (Or.inl rfl) (pe_ifExp (pt_cmp (pc_din hu (pv 6) (pv 5))) (pe_cal cL hr1 rfl (pa_cons (pe_dget hu (pv 5) (pv 6) (fun _ _ => rfl)) (pa_cons (pv 7) pa_nil))) (pe_tup (pa_cons pe_int (pa_cons pe_int pa_nil)))))
        (pss_one (ps_expr (pe_bm PySem.F.plainAttrs_list PySem.F.slot_list_append PySem.F.type_list_append mt_append (pv 3)
          (pa_cons (pe_tup (pa_cons (pe_ifExp (pt_cmpR op_gt (pv 4) pe_int (nomark _)) (pe_sliceS (pe_sliceS (pv 2) po_none (po_some (pv 4))) (po_some (pe_op op_sub pe_int (pe_callB (call_min2 rfl) (by rfl) B.min PyProof.Rows.boot_min (pa_cons (pv 1) (pa_cons (pv 4) pa_nil))))) po_none) pe_str) (pa_cons (pv 6) (pa_cons (pv 8) pa_nil)))) pa_nil)))))))))
      (pss_one (ps_ret (pv 3)))), ?_⟩
    have pl := pairs_len hb
    have hb1 := hb.hi
    have hb2 := hb.l8
    have hnl := hnm.2.1
    have ho := hb.o1
    generalize hps : pairsB o bk = ps at k pl h64
    refine ⟨by show 0 ≤ sizeLine; exact Nat.zero_le _, fun due hdue => ?_⟩
    have hnn : (((tx nm).length : Int) + 1).toNat = nm.length + 1 := by rw [tx_len]; omega
    refine ⟨_, rfl, tx nm, rfl, by rw [tx_len, sizeLine_eq]; omega, _, _, rfl, rfl, _, rfl, by rw [tx_len]; omega, by rw [tx_len]; omega, ?_⟩
    refine for_known (known_range 0 _) (fun i σ H' => (∃ y4 y5 y6 y7 y8 : Option V, σ = [some (.ref a), some (.int o), some (sv nm), some (.ref due), y4, y5, y6, y7, y8]) ∧ Same H H' ∧ ∃ xs, xs.length = i ∧ H' due = some (.lst xs) ∧ Reps K H' (((pairs1 o nm).take i).map (stD ps)) xs)
      ⟨⟨_, _, _, _, _, rfl⟩, Same.upd1 hdue, [], rfl, upd_same, rfl⟩ (fun _ _ _ _ _ => trivial) ?_ ?_
    · rintro i x σ H' Nx hN hx2 ⟨⟨y4, y5, y6, y7, y8, rfl⟩, sm, xs, hxl, hds, rp⟩
      rw [hnn] at hx2
      obtain ⟨hi, rfl⟩ := range_item hx2
      have ep := pairs1_get (o := o) hi
      have hi' : i < (pairs1 o nm).length := by rw [pairs1_len']; exact hi
      have etk : (pairs1 o nm).take (i + 1) = (pairs1 o nm).take i ++ [(endOf (nm.take i) o, (nm.drop i).take 1)] := by
        rw [List.take_succ_eq_append_getElem hi', (List.getElem?_eq_some_iff.mp ep).2]
      refine ⟨_, rfl, _, rfl, _, rfl, _, rfl, _, rfl, tx nm, rfl, by rw [tx_len, sizeLine_eq]; omega, a, bk, o, nm.take i, by rw [cut_to]; rfl, sm _ _ ha, hb1, hb2, ho, by rw [List.length_take]; omega, fun ra H2 s2 hra => ?_⟩
      rw [hps] at hra
      have hme : endOf (nm.take i) o = endOf (nm.take i) o := rfl
      generalize hend : endOf (nm.take i) o = e at hra etk
      refine ⟨_, rfl, _, rfl, _, rfl, _, rfl, _, _, rfl, rfl, _, rfl, tx nm, rfl, by rw [tx_len, sizeLine_eq]; omega, ?_⟩
      rw [cut_one]
      generalize hlet : (nm.drop i).take 1 = l at etk
      have tle : tot ps e ≤ ps.length := List.length_filter_le ..
      have cle := count_le_tot ps e l
      refine thaw_row rfl hra (rowOf_nd _ _) (by have := rowOf_len ps e; omega) fun D H3 s3 hD => ?_
      refine ⟨D, (rowOf ps e).map (·.2), rfl, .of hD, ?_⟩
      rw [rowOf_total]
      have hra3 := s3 _ _ hra
      have s23 := s2.trans s3
      refine ⟨_, rfl, _, rfl, ra, _, rfl, DGet.k (k := Sum.inr (tx l)) hra3, _, rfl, ?_⟩
      have hval : valV (rowV (rowOf ps e)) (Sum.inr (tx l)) = (getA (rowOf ps e) l).map V.int := val_enc _ _ _
      refine ifK (fun v H4 => Same H3 H4 ∧ Rep K H4 (frD (part ps e l)) v) ?cont (fun hb1 cont => ?yes) (fun hb1 cont => ?no)
      case yes =>
        rw [hval, rowOf_get] at hb1
        have c : 0 < ps.count (e, l) := by
          by_cases c : 0 < ps.count (e, l)
          · exact c
          · rw [if_neg c] at hb1; cases hb1
        have dg : DGet H3 ra (sv l) (some (.int (ps.count (e, l) : Int))) := by
          have := DGet.k (k := Sum.inr (tx l)) hra3
          rw [hval, rowOf_get, if_pos c] at this
          exact this
        refine ⟨_, rfl, _, rfl, ra, _, rfl, dg, _, rfl, (ps.count (e, l) : Int), (tot ps e : Int), rfl, by omega, by omega, by omega, fun p hp => cont _ _ ⟨Same.upd1 hp, ?_⟩⟩
        rw [part_some c]
        exact FrA.new.rep
      case no =>
        rw [hval, rowOf_get] at hb1
        have c : ¬ 0 < ps.count (e, l) := fun c => by rw [if_pos c] at hb1; cases hb1
        refine ⟨by show 2 ≤ sizeLine; decide, fun p hp => cont _ _ ⟨Same.upd1 hp, ?_⟩⟩
        rw [part_none (fun hm => c (List.count_pos_iff.mpr hm))]
        exact (FrA.new (q := (0, 1))).rep
      case cont =>
        rintro v H4 ⟨s4, hv⟩
        have s14 := (sm.trans s23).trans s4
        have hds4 := s4 _ _ (s23 _ _ hds)
        have rp4 := Reps.same (s23.trans s4) _ _ rp
        refine ⟨_, rfl, .inl ⟨rfl, _, .of hds4⟩, ?_⟩
        refine ⟨_, rfl, _, _, rfl, rfl, _, rfl, ?_⟩
        refine ifK (fun q H5 => q = sv e ∧ H5 = H4) ?cont2 (fun hb2 cont => ?yes2) (fun hb2 cont => ?no2)
        case yes2 =>
          have h0 : 0 < i := by have := of_decide_eq_true hb2; omega
          refine ⟨_, rfl, _, rfl, _, rfl, tx nm, rfl, by rw [tx_len, sizeLine_eq]; omega, _, rfl, _, rfl, _, _, rfl, _, _, rfl, rfl, _, rfl, _, rfl, ?_, cont _ _ ⟨?_, rfl⟩⟩
          · rw [cut_to, tx_len, sizeLine_eq, List.length_take]; omega
          · rw [cut_to, cut_min (nm.take i) o i ho h0 (by rw [List.length_take]; omega), hend]
        case no2 =>
          have hj0 : i = 0 := by have := of_decide_eq_false hb2; omega
          subst hj0
          refine cont _ _ ⟨?_, rfl⟩
          have e0 : e = [] := by rw [← hend]; simp [endOf]
          rw [e0]; rfl
        case cont2 =>
          rintro q H5 ⟨rfl, hH5⟩
          rw [hH5]; clear hH5 H5
          refine ⟨_, rfl, _, rfl, by show 3 ≤ sizeLine; decide, fun pt hpt => ?_⟩
          have s5 : Same H4 (upd H4 pt (.tup [sv e, sv l, v])) := Same.upd1 hpt
          refine ⟨due, xs, _, rfl, rfl, s5 _ _ hds4, by rw [sizeLine_eq]; omega, ?_⟩
          have hne : pt ≠ due := fun z => by rw [z] at hpt; rw [hds4] at hpt; cases hpt
          have s6 : Same H (upd (upd H4 pt (.tup [sv e, sv l, v])) due (.lst (xs ++ [.ref pt]))) := ((s14.trans s5).upd_new hdue)
          refine hN _ _ ⟨⟨_, _, _, _, _, rfl⟩, s6, xs ++ [.ref pt], by rw [List.length_append, hxl]; rfl, upd_same, ?_⟩
          rw [etk, List.map_append]
          have t6 := SameT.upd (ys := xs ++ [.ref pt]) (s5 _ _ hds4)
          have rp5 := Reps.append (Reps.same s5 _ _ rp4) (Reps.one (d := stD ps (e, l)) ⟨pt, [sv e, sv l, v], rfl, .of upd_same, _, _, rfl, rfl, _, _, rfl, rfl, _, _, rfl, Rep.same s5 _ _ hv, rfl⟩)
          refine Reps.sameT t6 _ _ ?_ rp5
          rw [← List.map_singleton, ← List.map_append]
          exact noLs_map _ (fun _ => rfl) _
    · rintro σ H' ⟨⟨y4, y5, y6, y7, y8, rfl⟩, sm, xs, hxl, hds, rp⟩
      rw [List.length_map, List.length_range, hnn, ← pairs1_len' o nm, List.take_length] at rp
      exact ⟨_, rfl, k due xs H' sm hds rp⟩
end
end Kn
end
section
set_option Elab.async false
set_option linter.all false
set_option maxRecDepth 100000
set_option maxHeartbeats 1000000
namespace Kn
open PySem L2
abbrev bkD (bk : List S) : List PyData := bk.map fun x => PyData.str (tx x)
theorem thg_str_inv {H : Hp} {d : PyData} {x : Str} (h : Thg H d (.str x)) : d = .str x := by
  cases d with
  | str y => rw [V.str.inj (show V.str x = .str y from h)]
  | none => cases h
  | bool b => cases h
  | int x => cases h
  | list ds => obtain ⟨_, _, h, _⟩ := h; cases h
  | tuple ds => obtain ⟨_, _, h, _⟩ := h; cases h
  | dict _ => cases h
def a9 : Str := ⟨(List.replicate (9 : Int).toNat ("a" : Str).cps.toList).flatten.toArray⟩
theorem bkV_inj : ∀ {a b : List S}, bkV a = bkV b → a = b
  | [], [], _ => rfl
  | [], _ :: _, h => by cases h
  | _ :: _, [], h => by cases h
  | x :: a, y :: b, h => by
    have h' : sv x :: bkV a = sv y :: bkV b := h
    injection h' with h1 h2
    rw [bkV_inj h2, tx_inj (V.str.inj h1)]
section
variable {X : Cx} {e : Expr} {es : List Expr} {te : TE} {t : TA} {pos : Pos}
def notStar : Expr → Bool
  | .Starred .. => false
  | _ => true
theorem star_cons (h : notStar e = true) (env) : starEach (e :: es) env = (false, eval e env) :: starEach es env := by
  cases e <;> first | rfl | (cases h)
theorem pa_c (ha : PE X e te) (hr : PA X es t) (hs : notStar e = true := by rfl) : PA X (e :: es) (tCons te t) := pa_cons ha hr (star_cons hs _)
end
theorem stD_lay {ps : List (S × S)} {p : S × S} (h : (∀ c ∈ p.1, c ≤ 122) ∧ ∀ c ∈ p.2, c ≤ 122) : (stD ps p).canLay0 = true ∧ (stD ps p).depth ≤ 10 := by
  constructor
  · unfold stD frD
    simp only [PyData.canLay0, PyData.canLayAll0, strOk_of h.1, strOk_of h.2, Bool.and_self]
  · unfold stD frD
    simp only [PyData.depth, PyData.depthAll]
    decide
end Kn
end
section
set_option Elab.async false
set_option linter.all false
set_option maxRecDepth 100000
set_option maxHeartbeats 4000000
namespace Kn
open PySem L2
def odd10 : List PyData := [.str "", .str "A", .none, .str a9]
theorem odd10_ok : ∀ d ∈ odd10, sml d = true ∧ isNameD d = false := by
  have all : odd10.all (fun d => sml d && !isNameD d) = true := by decide +kernel
  intro d hd
  have := List.all_eq_true.mp all d hd
  simp only [Bool.and_eq_true, Bool.not_eq_true'] at this
  exact this
def bad10 : List PyData := [.int 0, .int 4, .none]
theorem bad10_ok : ∀ d ∈ bad10, sml d = true ∧ isOrderD d = false := by
  have all : bad10.all (fun d => sml d && !isOrderD d) = true := by decide +kernel
  intro d hd
  have := List.all_eq_true.mp all d hd
  simp only [Bool.and_eq_true, Bool.not_eq_true'] at this
  exact this
theorem sml_nm {x : S} (h : isNm x) : sml (.str (tx x)) = true := by
  simp only [sml, tx_len, tx_cps, Bool.and_eq_true, decide_eq_true_eq, List.all_eq_true]
  exact ⟨by have := h.2.1; omega, fun c hc => by have := h.2.2 c hc; omega⟩
theorem smls_bk {bk : List S} (h : ∀ x ∈ bk, isNm x) : smls (bkD bk) = true := by
  induction bk with
  | nil => rfl
  | cons x r ih =>
    show smls (.str (tx x) :: bkD r) = true
    simp only [smls, sml_nm (h x (List.mem_cons_self ..)), ih fun y hy => h y (List.mem_cons_of_mem _ hy), Bool.and_self]
theorem sml_bk {bk : List S} (h : isBk bk) : sml (.tuple (bkD bk)) = true ∧ sml (.list (bkD bk)) = true := by
  have := smls_bk h.nm
  have hl : (bkD bk).length ≤ 900 := by have := h.hi; rw [List.length_map]; omega
  simp only [sml, this, Bool.and_true]
  exact ⟨decide_eq_true hl, decide_eq_true hl⟩
def due5 (ps : List (S × S)) (o : Nat) (nm : S) : List PyData :=
  [.list ((pairs1 o nm).map (stD ps)), frD (shareOf ps o nm), .bool (decide (0 < (shareOf ps o nm).1)), .str (tx (lkl (shareOf ps o nm) (shareOf ps o [97]) nm [97])), .str (tx (lkl (shareOf ps o nm) (shareOf ps o [97]) nm [97]))]
theorem due5_lay {ps : List (S × S)} {o : Nat} {nm : S} (h : isNm nm) : SeqAt.shaped (.list (due5 ps o nm)) = true ∧ (PyData.list (due5 ps o nm)).canLay0 = true := by
  have na : isNm [97] := ⟨by decide, by decide, by decide⟩
  have hl : isNm (lkl (shareOf ps o nm) (shareOf ps o [97]) nm [97]) := by
    rcases lkl_or (shareOf ps o nm) (shareOf ps o [97]) nm [97] with e | e <;> rw [e] <;> assumption
  have hs := strOk_of fun c hc => (hl.2.2 c hc).2
  have hst := (shaped_list (ds := (pairs1 o nm).map (stD ps)) fun d hd => by
    obtain ⟨p, hp, rfl⟩ := List.mem_map.mp hd
    exact stD_lay ⟨fun c hc => ((pair_chars h hp).1 c hc).2, fun c hc => ((pair_chars h hp).2 c hc).2⟩)
  have hd : PyData.depthAll ((pairs1 o nm).map (stD ps)) ≤ 10 := by
    have go : ∀ l : List (S × S), PyData.depthAll (l.map (stD ps)) ≤ 10 := by
      intro l
      induction l with
      | nil => exact Nat.zero_le _
      | cons q l ih =>
        rw [List.map_cons]
        simp only [PyData.depthAll]
        have : (stD ps q).depth ≤ 10 := by unfold stD frD; simp only [PyData.depth, PyData.depthAll]; decide
        omega
    exact go _
  have c1 : (PyData.list (due5 ps o nm)).canLay0 = true := by
    have := hst.2
    simp only [due5, frD, PyData.canLay0, PyData.canLayAll0, Bool.and_self, Bool.and_true] at this ⊢
    rw [this, hs]; rfl
  refine ⟨?_, c1⟩
  unfold SeqAt.shaped
  rw [c1, decide_eq_true (by simp only [due5, frD, PyData.depth, PyData.depthAll]; omega)]; rfl
def refD (j : Int) : PyData := .tuple [.str "refused", .int j]
theorem refs5 {K : PySem.W.Frag} {H'' : Hp} {D pt pl pr : Addr} {acc : List V} {j : Int} (hD : H'' D = none) (rp : Reps K H'' (List.replicate 5 (refD j)) acc) (hpt : upd H'' D (.lst acc) pt = none) (hpl : upd (upd H'' D (.lst acc)) pt (.tup [.str "refused", .int j]) pl = none)
    (hpr : upd (upd (upd H'' D (.lst acc)) pt (.tup [.str "refused", .int j])) pl (.lst [.ref pt]) pr = none) : ∃ Hf, upd (upd (upd (upd H'' D (.lst acc)) pt (.tup [.str "refused", .int j])) pl (.lst [.ref pt])) pr (.lst (List.replicate (5 : Int).toNat [V.ref pt]).flatten) = Hf ∧ Same H'' Hf ∧
      Rep K Hf (.list (List.replicate 5 (refD j))) (.ref D) ∧ Rep K Hf (.list (List.replicate 5 (refD j))) (.ref pr) := by
  have u1 := Same.upd1 (o := .lst acc) hD
  have u2 := Same.upd1 (o := .tup [.str "refused", .int j]) hpt
  have u3 := Same.upd1 (o := .lst [.ref pt]) hpl
  have u4 := Same.upd1 (o := .lst (List.replicate (5 : Int).toNat [V.ref pt]).flatten) hpr
  have hD4 := u4 _ _ (u3 _ _ (u2 _ _ (upd_same (H := H'') (a := D) (o := .lst acc))))
  have rp4 := Reps.same (((u1.trans u2).trans u3).trans u4) _ _ rp
  have hp4 := u4 _ _ (u3 _ _ (upd_same (H := upd H'' D (.lst acc)) (a := pt) (o := .tup [.str "refused", .int j])))
  refine ⟨_, rfl, ((u1.trans u2).trans u3).trans u4, repL hD4 rp4, repL upd_same ?_⟩
  have one : Rep K (upd (upd (upd (upd H'' D (.lst acc)) pt (.tup [.str "refused", .int j])) pl (.lst [.ref pt])) pr (.lst (List.replicate (5 : Int).toNat [V.ref pt]).flatten)) (refD j) (.ref pt) := ⟨pt, _, rfl, .of hp4, _, _, rfl, rfl, _, _, rfl, rfl, rfl⟩
  exact ⟨_, _, rfl, one, _, _, rfl, one, _, _, rfl, one, _, _, rfl, one, _, _, rfl, one, rfl⟩
theorem ifS {b : Bool} {σ : St} {H : Hp} {tA tB : TS} {D : _} (Pc : St → Hp → Prop) (hc : ∀ σ' H', Pc σ' H' → D.nx σ' H') (hA : b = true → (∀ σ' H', Pc σ' H' → D.nx σ' H') → tA D σ H) (hB : b = false → (∀ σ' H', Pc σ' H' → D.nx σ' H') → tB D σ H) : if b = true then tA D σ H else tB D σ H := by
  cases b with
  | true => exact iteT (hA rfl hc)
  | false => exact iteF (hB rfl hc)
theorem FrA.sameT {K : PySem.W.Frag} {H H' : Hp} {v : V} {q : Int × Int} (h : FrA K H v q) (e : SameT H H') : FrA K H' v q := by
  obtain ⟨a, h1, h2⟩ := h
  exact ⟨a, h1, e.sqT h2⟩
theorem told_inv {H : Hp} {b a' : Addr} {bk bk' : List S} {o o' : Nat} {y y' : S} (hb : H b = some (.tup (bkV bk))) (e1 : V.ref b = .ref a') (e2 : V.int (o : Int) = .int (o' : Int)) (e3 : sv y = sv y') (h : H a' = some (.tup (bkV bk'))) : b = a' ∧ bk = bk' ∧ o = o' ∧ y = y' := by
  cases e1
  rw [hb] at h
  refine ⟨rfl, bkV_inj ?_, ?_, tx_inj (V.str.inj e3)⟩
  · injection h with h; injection h
  · have := V.int.inj e2; omega
section
variable {P : Program} {w : World} {K : PySem.W.Frag} {mg : Str → Option Value} {base : Heap}
structure LawC10 (P : Program) (w : World) (K : PySem.W.Frag) (mg : Str → Option Value) (base : Heap) : Prop where
  dr : cDr P w K mg base
  nm : Cal P w K mg base 3 "_law_name" ["_law_script", "_law_at", "_law_most"] (spName K)
  bk : Cal P w K mg base 4 "_law_book" ["_law_script", "_law_at", "_law_many", "_law_most"] (spBook K)
  sh : Cal P w K mg base 3 "_law_share" ["_law_book_here", "_law_order", "_law_name_here"] (spShareL K)
  st : Cal P w K mg base 3 "_law_steps" ["_law_book_here", "_law_order", "_law_name_here"] (spStepsL K)
  be : Cal P w K mg base 4 "_law_best" ["_law_book_here", "_law_order", "_law_name_here", "_law_other"] spBest
  td : Cal P w K mg base 8 "_law_told" ["_law_way", "_law_book_here", "_law_order", "_law_name_here"] (spTold5 K)
  tm : Cal P w K mg base 3 "times" ["one", "other"] (spTimesW K)
  lw : Cal P w K mg base 1 "_law_lowest" ["_law_up", "_law_down"] spLowW
  ft : Cal P w K mg base 4 "_law_fractions_fit" ["_law_one", "_law_other"] (spFit2 K)
def spLaw (K : PySem.W.Frag) : Sp := fun vs H Q _ => ∃ (a : Addr) (ns : List Int), vs = [.ref a] ∧ SqL K H a (ns.map V.int) ∧ ns.length ≤ 63 ∧ ∀ H', Q (.bl true) H'
abbrev sLaw : Stmt := top 57
theorem scLaw : FnScope ["_law_script", "_law_book_here", "_law_order", "_law_rows", "_law_name_here", "_law_own", "_law_due", "_law_one", "_law_other", "_law_odd", "_law_none"] ["_law_script"] (defScope sLaw) := ⟨rfl, rfl, rfl, by decide +kernel, rfl, by decide +kernel, by decide +kernel⟩
theorem ndA : (["_law_book_here", "_law_order", "_law_name_here", "_law_way"] : List Str).Nodup := by decide +kernel
theorem ndB : (["_law_book_here", "_law_order", "_law_odd", "_law_way"] : List Str).Nodup := by decide +kernel
theorem ndC : (["_law_book_here", "_law_none", "_law_odd", "_law_way"] : List Str).Nodup := by decide +kernel
theorem ndD : (["_law_book_here", "_law_odd", "_law_way"] : List Str).Nodup := by decide +kernel
theorem ok_law {f : Addr} {fd : FuncData} (F : Fun K "law" "law" sLaw f fd) (B : Blt mg) (B2 : Blt2 mg) (C : LawC10 P w K mg base) : FnOk P w K mg base CX0 9 f fd ["_law_script"] (spLaw K) := by
  refine F.ok scLaw (fun vs H Q E h => ?_) (fun cdv A outer s H vs Q E hr h => ?_)
  · obtain ⟨a, ns, rfl, _⟩ := h; rfl
  · obtain ⟨a, ns, rfl, ha, hl, k⟩ := h
    have nd := scLaw.nd
    have hu := hr.units
    have r4 := hr.mono (j := 4) (by decide)
    have r3 := hr.mono (j := 3) (by decide)
    have r2 := hr.mono (j := 2) (by decide)
    have r1 := hr.mono (j := 1) (by decide)
    refine ⟨_, pss_cons (ps_set (i := 1) nd rfl (Or.inr rfl) (pe_cal C.bk r4 rfl (pa_c (pv 0) (pa_c pe_int (pa_c pe_int (pa_c pe_int pa_nil))))))
      (pss_cons (ps_set (i := 2) nd rfl (Or.inr rfl) (pe_op op_add pe_int (pe_cal C.dr r2 rfl (pa_c (pv 0) (pa_c pe_int (pa_c pe_int pa_nil))))))
      (pss_cons (ps_set (i := 3) nd rfl (Or.inl rfl) (pe_lst pa_nil))
      (pss_cons (ps_for PassesOwn.never rfl (pi_tup (pe_tup (pa_c (pe_cal C.nm r3 rfl (pa_c (pv 0) (pa_c pe_int (pa_c pe_int pa_nil))))
          (pa_c (pe_ix ix_tup (pv 1) (pe_cal C.dr r2 rfl (pa_c (pv 0) (pa_c pe_int (pa_c (pe_callB call_len_seq (by rfl) B.len PySem.boot_len (pa_c (pv 1) pa_nil)) pa_nil)))) (fun _ _ => rfl))
          (pa_c (pe_op op_add_str (pe_ix ix_tup (pv 1) pe_int (fun _ _ => rfl)) pe_str) pa_nil))))) (pg_name (i := 4) nd rfl (Or.inr rfl))
        (pss_cons (ps_set (i := 5) nd rfl (Or.inl rfl) (pe_cal C.sh r3 rfl (pa_c (pv 1) (pa_c (pv 2) (pa_c (pv 4) pa_nil)))))
        (pss_cons (ps_expr (pe_bm PySem.F.plainAttrs_list PySem.F.slot_list_append PySem.F.type_list_append mt_append (pv 3) (pa_c (pv 5) pa_nil)))
        (pss_cons (ps_set (i := 6) nd rfl (Or.inl rfl) (pe_op op_cat (pe_lst (pa_c (pe_cal C.st r3 rfl (pa_c (pv 1) (pa_c (pv 2) (pa_c (pv 4) pa_nil)))) (pa_c (pv 5) (pa_c (pe_cmpR op_gt (pe_ix ix_tup (pv 5) pe_int (fun _ _ => rfl)) pe_int (nomark _)) pa_nil))))
          (pe_op op_rep (pe_lst (pa_c (pe_cal C.be r4 rfl (pa_c (pv 1) (pa_c (pv 2) (pa_c (pv 4) (pa_c pe_str pa_nil))))) pa_nil)) pe_int)))
        (pss_one (ps_if (pt_cmpR (op_neD hu) (pe_comp (N := ["_law_book_here", "_law_order", "_law_name_here", "_law_way"]) (caps := [1, 2, 4]) rfl (compScope_of (by kernel_rfl)) (pi_range1 rfl B.range (pa_c pe_int pa_nil))
              (fun cl X s H ex => pg_name (i := 3) ndA rfl (Or.inl rfl)) (fun cl X s H ex => pf_nil)
              (fun cl X s H ex => pe_cal C.td hr rfl (pa_c (pv 3) (pa_c (pv 0) (pa_c (pv 1) (pa_c (pv 2) pa_nil)))))) (pv 6) (nomark _)) (pss_one (ps_ret pe_bl)) pss_nil))))))
      (pss_cons (ps_par (i := 7) (j := 8) rfl nd rfl rfl (by decide) rfl rfl (pa_c (pe_ix ix_list (pv 3) pe_int (fun _ _ => rfl)) (pa_c (pe_ix ix_list (pv 3) pe_int (fun _ _ => rfl)) pa_nil)) rfl)
      (pss_cons (ps_if (pt_cmpR op_gt (pe_op op_mul (pe_ix ix_tup (pv 7) pe_int (fun _ _ => rfl)) (pe_ix ix_tup (pv 8) pe_int (fun _ _ => rfl))) (pe_op op_mul (pe_ix ix_tup (pv 8) pe_int (fun _ _ => rfl)) (pe_ix ix_tup (pv 7) pe_int (fun _ _ => rfl))) (nomark _))
        (pss_one (ps_par (i := 7) (j := 8) rfl nd rfl rfl (by decide) rfl rfl (pa_c (pe_ix ix_list (pv 3) pe_int (fun _ _ => rfl)) (pa_c (pe_ix ix_list (pv 3) pe_int (fun _ _ => rfl)) pa_nil)) rfl)) pss_nil)
      (pss_cons (ps_if (pt_cmpR (op_neD hu) (pe_cal C.tm r3 rfl (pa_c (pv 7) (pa_c (pv 8) pa_nil)))
          (pe_cal C.lw r1 rfl (pa_c (pe_op op_mul (pe_ix ix_tup (pv 7) pe_int (fun _ _ => rfl)) (pe_ix ix_tup (pv 8) pe_int (fun _ _ => rfl))) (pa_c (pe_op op_mul (pe_ix ix_tup (pv 7) pe_int (fun _ _ => rfl)) (pe_ix ix_tup (pv 8) pe_int (fun _ _ => rfl))) pa_nil))) (nomark _)) (pss_one (ps_ret pe_bl)) pss_nil)
      (pss_cons (ps_if (pt_not (pt_val (pe_cal C.ft r4 rfl (pa_c (pv 7) (pa_c (pv 8) pa_nil))))) (pss_one (ps_ret pe_bl)) pss_nil)
      (pss_cons (ps_set (i := 9) nd rfl (Or.inr rfl) (pe_ix ix_list (pe_lst (pa_c pe_str (pa_c pe_str (pa_c pe_non (pa_c (pe_op op_repS pe_str pe_int) pa_nil))))) (pe_cal C.dr r2 rfl (pa_c (pv 0) (pa_c pe_int (pa_c pe_int pa_nil)))) (fun _ _ => rfl)))
      (pss_cons (ps_if (pt_cmpR (op_neD hu) (pe_comp (N := ["_law_book_here", "_law_order", "_law_odd", "_law_way"]) (caps := [1, 2, 9]) rfl (compScope_of (by kernel_rfl)) (pi_range1 rfl B.range (pa_c pe_int pa_nil))
              (fun cl X s H ex => pg_name (i := 3) ndB rfl (Or.inl rfl)) (fun cl X s H ex => pf_nil)
              (fun cl X s H ex => pe_cal C.td hr rfl (pa_c (pv 3) (pa_c (pv 0) (pa_c (pv 1) (pa_c (pv 2) pa_nil)))))) (pe_op op_rep (pe_lst (pa_c (pe_tup (pa_c pe_str (pa_c pe_int pa_nil))) pa_nil)) pe_int) (nomark _)) (pss_one (ps_ret pe_bl)) pss_nil)
      (pss_cons (ps_set (i := 10) nd rfl (Or.inr rfl) (pe_ix ix_list (pe_lst (pa_c pe_int (pa_c pe_int (pa_c pe_non pa_nil)))) (pe_cal C.dr r2 rfl (pa_c (pv 0) (pa_c pe_int (pa_c pe_int pa_nil)))) (fun _ _ => rfl)))
      (pss_cons (ps_if (pt_cmpR (op_neD hu) (pe_comp (N := ["_law_book_here", "_law_none", "_law_odd", "_law_way"]) (caps := [1, 10, 9]) rfl (compScope_of (by kernel_rfl)) (pi_range1 rfl B.range (pa_c pe_int pa_nil))
              (fun cl X s H ex => pg_name (i := 3) ndC rfl (Or.inl rfl)) (fun cl X s H ex => pf_nil)
              (fun cl X s H ex => pe_cal C.td hr rfl (pa_c (pv 3) (pa_c (pv 0) (pa_c (pv 1) (pa_c (pv 2) pa_nil)))))) (pe_op op_rep (pe_lst (pa_c (pe_tup (pa_c pe_str (pa_c pe_int pa_nil))) pa_nil)) pe_int) (nomark _)) (pss_one (ps_ret pe_bl)) pss_nil)
      (pss_one (ps_ret (pe_cmpR (op_eqD hu) (pe_comp (N := ["_law_book_here", "_law_odd", "_law_way"]) (caps := [1, 9]) rfl (compScope_of (by kernel_rfl)) (pi_range1 rfl B.range (pa_c pe_int pa_nil))
              (fun cl X s H ex => pg_name (i := 2) ndD rfl (Or.inl rfl)) (fun cl X s H ex => pf_nil)
              (fun cl X s H ex => pe_cal C.td hr rfl (pa_c (pv 2) (pa_c (pe_callTy (call_list_ofK K rfl) (by rfl) B2.list PyProof.Rows.boot_list (pa_c (pv 0) pa_nil)) (pa_c pe_int (pa_c (pv 1) pa_nil)))))) (pe_op op_rep (pe_lst (pa_c (pe_tup (pa_c pe_str (pa_c pe_int pa_nil))) pa_nil)) pe_int) (nomark _))))))))))))))), ?_⟩
    have sz4 : ∀ n, n ≤ 100 → n ≤ sizeLine := fun n h => by rw [sizeLine_eq]; omega
    refine ⟨_, rfl, a, ns, 0, 4, 4, rfl, ha, hl, by decide, by decide, by decide, by decide, fun b bk H1 s1 hb1 bl1 bl2 bn => ?_⟩
    have ebk : (bkV bk).length = bk.length := by simp [bkV]
    refine ⟨_, rfl, a, ns, 50, 3, rfl, s1.seq ha, hl, by decide, by decide, fun od H2 hod s2 => ⟨_, _, rfl, rfl, ?_⟩⟩
    obtain ⟨o, ho⟩ : ∃ o, 1 + od = o := ⟨_, rfl⟩
    have ho1 : 1 ≤ o := by omega
    have ho3 : o ≤ 3 := by omega
    have s02 := s1.trans s2
    have hbk2 := s2 _ _ hb1
    have gB : isBk bk := ⟨bl1, by omega, fun x hx => (bn x hx).1⟩
    have hB : Bk bk o := ⟨gB, ho1, ho3⟩
    have b4 : ∀ x ∈ bk, x.length ≤ 4 := fun x hx => (bn x hx).2
    have pl1 := pairs_len hB
    have pl20 : (pairsB o bk).length ≤ 20 := Nat.le_trans (plen_le4 b4) (by omega)
    have pw6 : ∀ n, n ≤ 6 → (pairsB o bk).length ^ n < 1073741824 := fun n hn => by
      have e1 : (pairsB o bk).length ^ n ≤ 20 ^ n := Nat.pow_le_pow_left pl20 n
      have e2 : 20 ^ n ≤ 20 ^ 6 := Nat.pow_le_pow_right (by decide) hn
      have e3 : (20 : Nat) ^ 6 < 1073741824 := by decide
      omega
    have fit : ∀ y, isNm y → y.length ≤ 5 → Fit bk o y := fun y h1 h2 => ⟨hB, h1, pw6 _ (by omega)⟩
    have na : isNm [97] := ⟨by decide, by decide, by decide⟩
    have gbook := sml_bk gB
    have isb : isBookD (.tuple (bkD bk)) = true := isBookD_of gB
    have tbook : ∀ Hx : Hp, Hx b = some (.tup (bkV bk)) → Thg Hx (.tuple (bkD bk)) (.ref b) := fun Hx h => ⟨b, _, rfl, h, Thgs.strs bk⟩
    have ido : isOrderD (.int (o : Int)) = true := by
      simp only [isOrderD, Bool.and_eq_true, decide_eq_true_eq]
      omega
    obtain ⟨x0, bk', hx0⟩ : ∃ x r, bk = x :: r := by
      cases bk with
      | nil => exact absurd bl1 (by decide)
      | cons x r => exact ⟨x, r, rfl⟩
    have nx0 := bn x0 (by rw [hx0]; exact List.mem_cons_self ..)
    have at0 : atI (bkV bk) 0 = some (sv x0) := by rw [hx0]; exact atI_nat (j := 0) rfl
    refine ⟨sz4 0 (by decide), fun rr hrr => ?_⟩
    have t3 : Same H2 (upd H2 rr (.lst [])) := Same.upd1 hrr
    have frr : upd H2 rr (.lst []) rr = some (.lst []) := upd_same
    generalize upd H2 rr (.lst []) = H3 at t3 frr ⊢
    have s03 := s02.trans t3
    refine ⟨_, rfl, a, ns, 60, 5, rfl, s03.seq ha, hl, by decide, by decide, fun nm H4 s4 hn1 hn2 => ?_⟩
    have s04 := s03.trans s4
    refine ⟨_, rfl, _, rfl, _, rfl, b, bkV bk, rfl, .inr (.of (s4 _ _ (t3 _ _ hbk2))), a, ns, 51, bk.length, by rw [ebk]; rfl, s04.seq ha, hl, bl1, by omega, fun j H5 hj s5 => ?_⟩
    obtain ⟨x1, hx1⟩ : ∃ x, bk[j]? = some x := ⟨_, List.getElem?_eq_getElem hj⟩
    have nx1 := bn x1 (List.mem_of_getElem? hx1)
    have at1 : atI (bkV bk) j = some (sv x1) := atI_nat (by unfold bkV; rw [List.getElem?_map, hx1]; rfl)
    have hbk5 := s5 _ _ (s4 _ _ (t3 _ _ hbk2))
    refine ⟨b, bkV bk, j, sv x1, rfl, rfl, .of hbk5, at1, ?_⟩
    refine ⟨_, rfl, b, bkV bk, 0, sv x0, rfl, rfl, .of hbk5, at0, tx x0, "b", rfl, rfl, sz4 _ (by rw [tx_len]; have := nx0.2; show _ + 1 ≤ 100; omega), sz4 3 (by decide), fun tT htT => ⟨tT, rfl, ⟨_, .of upd_same⟩, ?_⟩⟩
    have eb : tx x0 ++ ("b" : Str) = tx (x0 ++ [98]) := tx_app x0 [98]
    have nx2 : isNm (x0 ++ [98]) ∧ (x0 ++ [98]).length ≤ 5 := by
      have h1 := nx0.1
      have h2 := nx0.2
      refine ⟨⟨by rw [List.length_append]; show 1 ≤ _ + 1; omega, by rw [List.length_append]; show _ + 1 ≤ 8; omega, fun c hc => ?_⟩, by rw [List.length_append]; show _ + 1 ≤ 5; omega⟩
      rcases List.mem_append.mp hc with z | z
      · exact h1.2.2 c z
      · have : c = 98 := by simpa using z
        omega
    rw [eb]
    have t6 : Same H5 (upd H5 tT (.tup [sv nm, sv x1, sv (x0 ++ [98])])) := Same.upd1 htT
    have ftT : upd H5 tT (.tup [sv nm, sv x1, sv (x0 ++ [98])]) tT = some (.tup [sv nm, sv x1, sv (x0 ++ [98])]) := upd_same
    generalize upd H5 tT (.tup [sv nm, sv x1, sv (x0 ++ [98])]) = H6 at t6 ftT ⊢
    have s36 := (s4.trans s5).trans t6
    have frr6 := s36 _ _ frr
    have s26 := t3.trans s36
    refine for_known (known_tup K tT [sv nm, sv x1, sv (x0 ++ [98])]) (fun i σ H' => (∃ x4 x5 x6 x7 x8 x9 x10 : Option V, σ = [some (.ref a), some (.ref b), some (.int (o : Int)), some (.ref rr), x4, x5, x6, x7, x8, x9, x10]) ∧ Same H2 H' ∧ H' tT = some (.tup [sv nm, sv x1, sv (x0 ++ [98])]) ∧ ∃ vs, H' rr = some (.lst vs) ∧ vs.length = i ∧ ∀ v ∈ vs, ∃ q, Sm q ∧ FrA K H' v q)
      ⟨⟨_, _, _, _, _, _, _, by rw [← ho]; rfl⟩, s26, ftT, [], frr6, rfl, fun v hv => by cases hv⟩ (fun i σ H' _ h => .of h.2.2.1) ?_ ?_
    · rintro i x σ H' Nx hN hx ⟨⟨x4, x5, x6, x7, x8, x9, x10, rfl⟩, sm, htt, vs, hrs, hvl, hvs⟩
      obtain ⟨y, hy1, hy2, rfl⟩ : ∃ y, isNm y ∧ y.length ≤ 5 ∧ x = sv y := by
        match i, hx with
        | 0, hx => exact ⟨nm, hn1, hn2, (Option.some.inj hx).symm⟩
        | 1, hx => exact ⟨x1, nx1.1, by have := nx1.2; omega, (Option.some.inj hx).symm⟩
        | 2, hx => exact ⟨x0 ++ [98], nx2.1, nx2.2, (Option.some.inj hx).symm⟩
        | n + 3, hx => simp at hx
      have hi3 : i < 3 := (List.getElem?_eq_some_iff.mp hx).1
      have fy := fit y hy1 hy2
      have h64 : (pairsB o bk).length < 64 := by omega
      have hbk := sm _ _ hbk2
      refine ⟨_, rfl, _, rfl, _, rfl, b, bk, o, y, rfl, hbk, fy, h64, fun v5 J1 z1 fr1 => ?_⟩
      have smq := share_sm (o := o) (nm := y) pl1.1 fy.pw
      have hrs1 := z1 _ _ hrs
      refine ⟨_, rfl, .inl ⟨rfl, _, .of hrs1⟩, _, rfl, rr, vs, v5, rfl, rfl, hrs1, by rw [sizeLine_eq]; omega, ?_⟩
      have zT := SameT.upd (ys := vs ++ [v5]) hrs1
      have hne : tT ≠ rr := fun z => by rw [z, hrs] at htt; cases htt
      have sm2 : Same H2 (upd J1 rr (.lst (vs ++ [v5]))) := (sm.trans z1).upd_new hrr
      have htt2 : upd J1 rr (.lst (vs ++ [v5])) tT = some (.tup [sv nm, sv x1, sv (x0 ++ [98])]) := by rw [upd_ne hne]; exact z1 _ _ htt
      have hrs2 : upd J1 rr (.lst (vs ++ [v5])) rr = some (.lst (vs ++ [v5])) := upd_same
      have fr2 := fr1.sameT zT
      have hvs2 : ∀ v ∈ vs ++ [v5], ∃ q, Sm q ∧ FrA K (upd J1 rr (.lst (vs ++ [v5]))) v q := fun v hv => by
        rcases List.mem_append.mp hv with z | z
        · obtain ⟨q, q1, q2⟩ := hvs v z
          exact ⟨q, q1, (q2.same z1).sameT zT⟩
        · have : v = v5 := by simpa using z
          rw [this]
          exact ⟨_, smq, fr2⟩
      generalize upd J1 rr (.lst (vs ++ [v5])) = J2 at sm2 htt2 hrs2 fr2 hvs2 ⊢
      refine ⟨_, rfl, _, rfl, _, rfl, b, bk, o, y, rfl, sm2 _ _ hbk2, hB, hy1, h64, fun ls xs J3 z3 hls rps => ?_⟩
      have fr3 := fr2.same z3
      obtain ⟨c, hc, hcq⟩ := id fr3
      refine ⟨_, rfl, _, rfl, c, _, 0, _, by rw [← hc], rfl, hcq, rfl, _, _, rfl, rfl, sz4 3 (by decide), fun l1 hl1 => ?_⟩
      have z4 : Same J3 (upd J3 l1 (.lst [.ref ls, v5, .bl (decide ((shareOf (pairsB o bk) o y).1 > 0))])) := Same.upd1 hl1
      have fl1 : upd J3 l1 (.lst [.ref ls, v5, .bl (decide ((shareOf (pairsB o bk) o y).1 > 0))]) l1 = some (.lst [.ref ls, v5, .bl (decide ((shareOf (pairsB o bk) o y).1 > 0))]) := upd_same
      generalize hJ4 : upd J3 l1 (.lst [.ref ls, v5, .bl (decide ((shareOf (pairsB o bk) o y).1 > 0))]) = J4 at z4 fl1
      refine ⟨_, rfl, _, rfl, _, rfl, b, bk, o, y, [97], rfl, z4 _ _ (z3 _ _ (sm2 _ _ hbk2)), fy, fit [97] na (by decide), h64, fun J5 z5 => ⟨sz4 1 (by decide), fun l2 hl2 => ⟨l2, 2, _, rfl, rfl, upd_same, by decide, by decide, sz4 2 (by decide), fun l3 hl3 => ?_⟩⟩⟩
      have z6 := Same.upd1 (o := .lst [sv (lkl (shareOf (pairsB o bk) o y) (shareOf (pairsB o bk) o [97]) y [97])]) hl2
      have z7 := Same.upd1 (o := .lst (List.replicate (2 : Int).toNat [sv (lkl (shareOf (pairsB o bk) o y) (shareOf (pairsB o bk) o [97]) y [97])]).flatten) hl3
      refine ⟨l1, l3, _, _, rfl, rfl, z7 _ _ (z6 _ _ (z5 _ _ fl1)), upd_same, sz4 5 (by decide), fun l4 hl4 => ?_⟩
      have z47 := (z5.trans z6).trans z7
      have z8 := Same.upd1 (o := .lst ([.ref ls, v5, .bl (decide ((shareOf (pairsB o bk) o y).1 > 0))] ++ (List.replicate (2 : Int).toNat [sv (lkl (shareOf (pairsB o bk) o y) (shareOf (pairsB o bk) o [97]) y [97])]).flatten)) hl4
      have z38 := (z4.trans z47).trans z8
      have rdue : ∀ J, Same J3 J → Reps K J (due5 (pairsB o bk) o y) ([.ref ls, v5, .bl (decide ((shareOf (pairsB o bk) o y).1 > 0))] ++ (List.replicate (2 : Int).toNat [sv (lkl (shareOf (pairsB o bk) o y) (shareOf (pairsB o bk) o [97]) y [97])]).flatten) := fun J z =>
        ⟨_, _, rfl, repL (z _ _ hls) (Reps.same z _ _ rps), _, _, rfl, (fr3.same z).rep, _, _, rfl, rfl, _, _, rfl, rfl, _, _, rfl, rfl, rfl⟩
      have fl4 := upd_same (H := upd (upd J5 l2 (.lst [sv (lkl (shareOf (pairsB o bk) o y) (shareOf (pairsB o bk) o [97]) y [97])])) l3 (.lst (List.replicate (2 : Int).toNat [sv (lkl (shareOf (pairsB o bk) o y) (shareOf (pairsB o bk) o [97]) y [97])]).flatten)) (a := l4) (o := .lst ([.ref ls, v5, .bl (decide ((shareOf (pairsB o bk) o y).1 > 0))] ++ (List.replicate (2 : Int).toNat [sv (lkl (shareOf (pairsB o bk) o y) (shareOf (pairsB o bk) o [97]) y [97])]).flatten))
      generalize [V.ref ls, v5, .bl (decide ((shareOf (pairsB o bk) o y).1 > 0))] ++ (List.replicate (2 : Int).toNat [sv (lkl (shareOf (pairsB o bk) o y) (shareOf (pairsB o bk) o [97]) y [97])]).flatten = dueV at rdue z8 z38 fl4 ⊢
      generalize upd (upd (upd J5 l2 (.lst [sv (lkl (shareOf (pairsB o bk) o y) (shareOf (pairsB o bk) o [97]) y [97])])) l3 (.lst (List.replicate (2 : Int).toNat [sv (lkl (shareOf (pairsB o bk) o y) (shareOf (pairsB o bk) o [97]) y [97])]).flatten)) l4 (.lst dueV) = J6 at z8 z38 fl4 ⊢
      have z36 : Same J3 J6 := z38
      have z26 := z3.trans z36
      have hbk6 := z26 _ _ (sm2 _ _ hbk2)
      refine ⟨5, rfl, by decide, by decide, ?_⟩
      refine comp_known0 (known_range 0 _) [some (.ref b), some (.int (o : Int)), some (sv y)] 1 (by decide) (fun i acc H'' => Same J6 H'' ∧ acc.length = i ∧ Reps K H'' ((due5 (pairsB o bk) o y).take i) acc) ⟨Same.refl _, rfl, rfl⟩ (fun i acc H'' _ h => ⟨trivial, Nat.le_of_eq h.2.1⟩) ?_ ?_
      · rintro i z acc H'' ys Nx' hN' hz hys ⟨smc, hal, rp⟩
        obtain ⟨y1, rfl⟩ := ys1 hys
        obtain ⟨hi, rfl⟩ := range_item (n := 5) hz
        have hbkc := smc _ _ hbk6
        have step : ∀ d v H3, (due5 (pairsB o bk) o y)[i]? = some d → Same H'' H3 → Rep K H3 d v → Nx' (acc ++ [v]) [some (.ref b), some (.int (o : Int)), some (sv y), some (.int i)] H3 := fun d v H3 hd s3 hr3 => by
          refine hN' _ _ [some (.int i)] rfl ⟨smc.trans s3, by rw [List.length_append, hal]; rfl, ?_⟩
          obtain ⟨hlt, hge⟩ := List.getElem?_eq_some_iff.mp hd
          rw [List.take_succ_eq_append_getElem hlt, hge]
          exact Reps.append (Reps.same s3 _ _ rp) (Reps.one hr3)
        refine ⟨_, rfl, _, rfl, _, rfl, _, rfl, i, .ref b, .int o, sv y, .tuple (bkD bk), .int o, .str (tx y), rfl, hi, tbook _ hbkc, rfl, rfl, gbook.1, rfl, sml_nm hy1, (fun z => by rw [isb] at z; cases z), (fun _ z => by rw [ido] at z; cases z), (fun _ _ z => by rw [isNameD_of hy1] at z; cases z), fun a' bk' o' nm' e1 e2 e3 h3 h4 h5 => ?_⟩
        obtain ⟨rfl, rfl, rfl, rfl⟩ := told_inv hbkc e1 e2 e3 h3
        refine ⟨fy.pw, pw6 2 (by decide), fun w0 l xs H3 s3 hl3 h3 rp3 => step _ _ H3 (by rw [w0]; rfl) s3 (repL h3 rp3), fun w1 v H3 s3 fr => step _ _ H3 (by rw [w1]; rfl) s3 fr.rep, fun w2 H3 s3 => step (.bool _) _ H3 (by rw [w2]; rfl) s3 rfl, fun w34 H3 s3 => step (.str _) _ H3 ?_ s3 rfl⟩
        rcases w34 with w3 | w4
        · rw [w3]; rfl
        · rw [w4]; rfl
      · rintro acc H'' ⟨smc, hal, rp⟩ D hD
        have u1 := Same.upd1 (o := .lst acc) hD
        have lay := due5_lay (ps := pairsB o bk) (o := o) hy1
        refine ⟨_, rfl, .list (due5 (pairsB o bk) o y), .list (due5 (pairsB o bk) o y), repL upd_same (Reps.same u1 _ _ rp), repL (u1 _ _ (smc _ _ fl4)) (rdue _ ((z36.trans smc).trans u1)), lay.1, lay.1, _, rfl, ite_ne lay.2 ?_⟩
        have zz := (z26.trans smc).trans u1
        exact hN _ _ ⟨⟨_, _, _, _, _, _, _, rfl⟩, sm2.trans zz, zz _ _ htt2, _, zz _ _ hrs2, by rw [List.length_append, hvl]; rfl, fun v hv => by obtain ⟨q, q1, q2⟩ := hvs2 v hv; exact ⟨q, q1, q2.same zz⟩⟩
    · rintro σ H7 ⟨⟨x4, x5, x6, x7, x8, x9, x10, rfl⟩, sm, htt, vs, hrs, hvl, hvs⟩
      match vs, hvl with
      | [v0, v1, v2], _ =>
      obtain ⟨p0, sp0, fp0⟩ := hvs v0 (List.mem_cons_self ..)
      obtain ⟨p1, sp1, fp1⟩ := hvs v1 (List.mem_cons_of_mem _ (List.mem_cons_self ..))
      have s07 := s02.trans sm
      have hbk7 := sm _ _ hbk2
      refine ⟨_, rfl, rr, _, 0, v0, rfl, rfl, .of hrs, atI_nat (j := 0) rfl, _, rfl, rr, _, 1, v1, rfl, rfl, .of hrs, atI_nat (j := 1) rfl, _, _, rfl, ?_⟩
      obtain ⟨c0, rfl, hc0⟩ := id fp0
      obtain ⟨c1, rfl, hc1⟩ := id fp1
      refine ⟨_, rfl, c0, _, 0, _, rfl, rfl, hc0, rfl, _, rfl, c1, _, 1, _, rfl, rfl, hc1, rfl, _, _, rfl, rfl, cm sp0.up sp0.u1 _, ?_⟩
      refine ⟨_, rfl, c1, _, 0, _, rfl, rfl, hc1, rfl, _, rfl, c0, _, 1, _, rfl, rfl, hc0, rfl, _, _, rfl, rfl, cm sp1.up sp1.u1 _, _, _, rfl, rfl, _, rfl, ?_⟩
      refine ifS (fun σ' H' => H' = H7 ∧ ∃ (u v : Addr) (p q : Int × Int) (z4 z5 z6 z9 z10 : Option V), σ' = [some (.ref a), some (.ref b), some (.int (o : Int)), some (.ref rr), z4, z5, z6, some (.ref u), some (.ref v), z9, z10] ∧ Sm p ∧ Sm q ∧ SqT K H7 u [.int p.1, .int p.2] ∧ SqT K H7 v [.int q.1, .int q.2] ∧ p.1 * q.2 ≤ q.1 * p.2) ?rest (fun hb cont => ?yes) (fun hb cont => ?no)
      case yes =>
        have hlt := of_decide_eq_true hb
        refine ⟨_, rfl, rr, _, 1, _, rfl, rfl, .of hrs, atI_nat (j := 1) rfl, _, rfl, rr, _, 0, _, rfl, rfl, .of hrs, atI_nat (j := 0) rfl, _, _, rfl, cont _ _ ⟨rfl, c1, c0, p1, p0, _, _, _, _, _, rfl, sp1, sp0, hc1, hc0, by omega⟩⟩
      case no =>
        have hlt := of_decide_eq_false hb
        exact cont _ _ ⟨rfl, c0, c1, p0, p1, _, _, _, _, _, rfl, sp0, sp1, hc0, hc1, by omega⟩
      case rest =>
        rintro σ' H' ⟨rfl, u, v, p, q, z4, z5, z6, z9, z10, rfl, sp, sq, hu1, hv1, hle⟩
        have wp := sp.wd
        have wq := sq.wd
        refine ⟨_, rfl, _, rfl, .ref u, .ref v, p, q, rfl, ⟨u, rfl, hu1⟩, ⟨v, rfl, hv1⟩, wp, wq, fun t1 ht1 => ?_⟩
        have y1 := Same.upd1 (o := frO (tms p q)) ht1
        have hu2 := y1.seqT hu1
        have hv2 := y1.seqT hv1
        have fl1 := FrA.new (K := K) (H := H') (p := t1) (q := tms p q)
        generalize upd H' t1 (frO (tms p q)) = J1 at y1 hu2 hv2 fl1 ⊢
        refine ⟨_, rfl, u, _, 0, _, rfl, rfl, hu2, rfl, _, rfl, v, _, 0, _, rfl, rfl, hv2, rfl, _, _, rfl, rfl, cm sp.up sp.u1 _, ?_⟩
        refine ⟨_, rfl, u, _, 1, _, rfl, rfl, hu2, rfl, _, rfl, v, _, 1, _, rfl, rfl, hv2, rfl, _, _, rfl, rfl, cm (Int.le_of_lt sp.dn) sp.d1 _, ?_⟩
        refine ⟨p.1 * q.1, p.2 * q.2, rfl, Int.mul_nonneg sp.up sq.up, Int.mul_pos sp.dn sq.dn, Wd.prod wp wq, fun t2 ht2 => ?_⟩
        have y2 := Same.upd1 (o := frO (low (p.1 * q.1) (p.2 * q.2))) ht2
        have fl2 := FrA.new (K := K) (H := J1) (p := t2) (q := low (p.1 * q.1) (p.2 * q.2))
        generalize upd J1 t2 (frO (low (p.1 * q.1) (p.2 * q.2))) = J2 at y2 fl2 ⊢
        refine ⟨_, _, (fl1.same y2).rep, fl2.rep, (fr_sh _).1, (fr_sh _).1, _, rfl, ite_ne (fr_sh _).2 ?_⟩
        have y02 := y1.trans y2
        refine ⟨_, rfl, _, rfl, .ref u, .ref v, p, q, rfl, ⟨u, rfl, y02.seqT hu1⟩, ⟨v, rfl, y02.seqT hv1⟩, sp, sq, hle, fun J3 y3 => ⟨true, rfl, iteF ?_⟩⟩
        have y03 := y02.trans y3
        refine ⟨"a", 9, rfl, rfl, by decide, by decide, by decide, by decide, sz4 4 (by decide), fun lo hlo => ⟨_, rfl, a, ns, 70, 4, rfl, ((s07.trans y03).trans (Same.upd1 hlo)).seq ha, hl, by decide, by decide, fun oi J4 hoi y4 => ?_⟩⟩
        have w4 : Same J3 (upd J3 lo (.lst [V.str "", V.str "A", V.non, V.str a9])) := Same.upd1 hlo
        have oT : ∀ Hx, Thgs Hx odd10 [V.str "", V.str "A", V.non, V.str a9] := fun Hx => ⟨_, _, rfl, rfl, _, _, rfl, rfl, _, _, rfl, rfl, _, _, rfl, rfl, rfl⟩
        obtain ⟨ov, hov⟩ : ∃ v, ([V.str "", V.str "A", V.non, V.str a9] : List V)[oi]? = some v := ⟨_, List.getElem?_eq_getElem hoi⟩
        obtain ⟨od', hod', _⟩ := (oT J4).get hov
        have odT : ∀ Hx, Thg Hx od' ov := fun Hx => by
          obtain ⟨e, he, ht⟩ := (oT Hx).get hov
          rw [hod'] at he
          cases he
          exact ht
        obtain ⟨osm, onm⟩ := odd10_ok od' (List.mem_of_getElem? hod')
        refine ⟨lo, [V.str "", V.str "A", V.non, V.str a9], _, ov, rfl, rfl, .of (y4 _ _ upd_same), atI_nat hov, ?_⟩
        have y34 : Same J3 J4 := w4.trans y4
        have s04 := (s07.trans y03).trans y34
        have hbk4 := y34 _ _ (y03 _ _ hbk7)
        have noname : ∀ y : S, isNm y → ov = sv y → False := fun y hy e => by
          have := odT J4
          rw [e] at this
          rw [thg_str_inv this, isNameD_of hy] at onm
          cases onm
        refine ⟨5, rfl, by decide, by decide, ?_⟩
        refine comp_known0 (known_range 0 _) [some (.ref b), some (.int (o : Int)), some ov] 1 (by decide) (fun i acc H'' => Same J4 H'' ∧ acc.length = i ∧ Reps K H'' (List.replicate i (refD 2)) acc) ⟨Same.refl _, rfl, rfl⟩ (fun i acc H'' _ h => ⟨trivial, Nat.le_of_eq h.2.1⟩) ?_ ?_
        · rintro i z acc H'' ys Nx' hN' hz hys ⟨smc, hal, rp⟩
          obtain ⟨y1, rfl⟩ := ys1 hys
          obtain ⟨hi, rfl⟩ := range_item (n := 5) hz
          refine ⟨_, rfl, _, rfl, _, rfl, _, rfl, i, .ref b, .int o, ov, .tuple (bkD bk), .int o, od', rfl, hi, tbook _ (smc _ _ hbk4), rfl, odT _, gbook.1, rfl, osm, (fun z => by rw [isb] at z; cases z), (fun _ z => by rw [ido] at z; cases z), (fun _ _ _ pr H3 s3 rt => hN' _ _ [some (.int i)] rfl ⟨smc.trans s3, by rw [List.length_append, hal]; rfl, ?_⟩), fun a' bk' o' nm' e1 e2 e3 h3 h4 h5 => (noname nm' h5 e3).elim⟩
          rw [List.replicate_succ']
          exact Reps.append (Reps.same s3 _ _ rp) (Reps.one ⟨pr, _, rfl, .of rt, _, _, rfl, rfl, _, _, rfl, rfl, rfl⟩)
        rintro acc H'' ⟨smc, hal, rp⟩ D hD
        refine ⟨sz4 2 (by decide), fun pt hpt => ⟨sz4 1 (by decide), fun pl hpl => ⟨pl, 5, [.ref pt], rfl, rfl, upd_same, by decide, by decide, sz4 5 (by decide), fun pr hpr => ?_⟩⟩⟩
        obtain ⟨J5, eJ5, y5, q1, q2⟩ := refs5 hD rp hpt hpl hpr
        rw [eJ5]
        refine ⟨_, _, q1, q2, by decide +kernel, by decide +kernel, _, rfl, ite_ne (by decide +kernel) ?_⟩
        have y45 := smc.trans y5
        refine ⟨sz4 3 (by decide), fun lb hlb => ⟨_, rfl, a, ns, 71, 3, rfl, ((s04.trans y45).trans (Same.upd1 hlb)).seq ha, hl, by decide, by decide, fun bi J6 hbi y6 => ?_⟩⟩
        have w6 : Same J5 (upd J5 lb (.lst [V.int 0, V.int 4, V.non])) := Same.upd1 hlb
        have bT : ∀ Hx, Thgs Hx bad10 [V.int 0, V.int 4, V.non] := fun Hx => ⟨_, _, rfl, rfl, _, _, rfl, rfl, _, _, rfl, rfl, rfl⟩
        obtain ⟨bv, hbv⟩ : ∃ v, ([V.int 0, V.int 4, V.non] : List V)[bi]? = some v := ⟨_, List.getElem?_eq_getElem hbi⟩
        obtain ⟨bd, hbd, _⟩ := (bT J6).get hbv
        have bdT : ∀ Hx, Thg Hx bd bv := fun Hx => by
          obtain ⟨e, he, ht⟩ := (bT Hx).get hbv
          rw [hbd] at he
          cases he
          exact ht
        obtain ⟨bsm, bno⟩ := bad10_ok bd (List.mem_of_getElem? hbd)
        refine ⟨lb, [V.int 0, V.int 4, V.non], _, bv, rfl, rfl, .of (y6 _ _ upd_same), atI_nat hbv, ?_⟩
        have y46 := y45.trans (w6.trans y6)
        have hbk6 := y46 _ _ hbk4
        refine ⟨5, rfl, by decide, by decide, ?_⟩
        refine comp_known0 (known_range 0 _) [some (.ref b), some bv, some ov] 1 (by decide) (fun i acc H'' => Same J6 H'' ∧ acc.length = i ∧ Reps K H'' (List.replicate i (refD 1)) acc) ⟨Same.refl _, rfl, rfl⟩ (fun i acc H'' _ h => ⟨trivial, Nat.le_of_eq h.2.1⟩) ?_ ?_
        · rintro i z acc H'' ys Nx' hN' hz hys ⟨smc, hal, rp⟩
          obtain ⟨y1, rfl⟩ := ys1 hys
          obtain ⟨hi, rfl⟩ := range_item (n := 5) hz
          refine ⟨_, rfl, _, rfl, _, rfl, _, rfl, i, .ref b, bv, ov, .tuple (bkD bk), bd, od', rfl, hi, tbook _ (smc _ _ hbk6), bdT _, odT _, gbook.1, bsm, osm, (fun z => by rw [isb] at z; cases z), (fun _ _ pr H3 s3 rt => hN' _ _ [some (.int i)] rfl ⟨smc.trans s3, by rw [List.length_append, hal]; rfl, ?_⟩), (fun _ z => by rw [bno] at z; cases z), fun a' bk' o' nm' e1 e2 e3 h3 h4 h5 => (noname nm' h5 e3).elim⟩
          rw [List.replicate_succ']
          exact Reps.append (Reps.same s3 _ _ rp) (Reps.one ⟨pr, _, rfl, .of rt, _, _, rfl, rfl, _, _, rfl, rfl, rfl⟩)
        rintro acc2 H2' ⟨smc2, hal2, rp2⟩ D2 hD2
        refine ⟨sz4 2 (by decide), fun pt2 hpt2 => ⟨sz4 1 (by decide), fun pl2 hpl2 => ⟨pl2, 5, [.ref pt2], rfl, rfl, upd_same, by decide, by decide, sz4 5 (by decide), fun pr2 hpr2 => ?_⟩⟩⟩
        obtain ⟨J7, eJ7, y7, q3, q4⟩ := refs5 hD2 rp2 hpt2 hpl2 hpr2
        rw [eJ7]
        refine ⟨_, _, q3, q4, by decide +kernel, by decide +kernel, _, rfl, ite_ne (by decide +kernel) ?_⟩
        have hbk7' := (smc2.trans y7) _ _ hbk6
        refine ⟨5, rfl, by decide, by decide, ?_⟩
        refine comp_known0 (known_range 0 _) [some (.ref b), some ov] 1 (by decide) (fun i acc H'' => Same J7 H'' ∧ acc.length = i ∧ Reps K H'' (List.replicate i (refD 0)) acc) ⟨Same.refl _, rfl, rfl⟩ (fun i acc H'' _ h => ⟨trivial, Nat.le_of_eq h.2.1⟩) ?_ ?_
        · rintro i z acc H'' ys Nx' hN' hz hys ⟨smc, hal, rp⟩
          obtain ⟨y1, rfl⟩ := ys1 hys
          obtain ⟨hi, rfl⟩ := range_item (n := 5) hz
          refine ⟨_, rfl, _, rfl, b, bkV bk, rfl, .inr (.of (smc _ _ hbk7')), fun ll hll => ?_⟩
          have yl := Same.upd1 (o := .lst (bkV bk)) hll
          have nob : isBookD (.list (bkD bk)) = false := rfl
          refine ⟨_, rfl, i, .ref ll, .int 0, ov, .list (bkD bk), .int 0, od', rfl, hi, ⟨ll, _, rfl, upd_same, Thgs.strs bk⟩, rfl, odT _, gbook.2, rfl, osm, (fun _ pr H3 s3 rt => hN' _ _ [some (.int i)] rfl ⟨(smc.trans yl).trans s3, by rw [List.length_append, hal]; rfl, ?_⟩), (fun z => by rw [nob] at z; cases z), (fun z => by rw [nob] at z; cases z), fun a' bk' o' nm' e1 e2 e3 h3 h4 h5 => (noname nm' h5 e3).elim⟩
          rw [List.replicate_succ']
          exact Reps.append (Reps.same (yl.trans s3) _ _ rp) (Reps.one ⟨pr, _, rfl, .of rt, _, _, rfl, rfl, _, _, rfl, rfl, rfl⟩)
        rintro acc3 H3' ⟨smc3, hal3, rp3⟩ D3 hD3
        refine ⟨sz4 2 (by decide), fun pt3 hpt3 => ⟨sz4 1 (by decide), fun pl3 hpl3 => ⟨pl3, 5, [.ref pt3], rfl, rfl, upd_same, by decide, by decide, sz4 5 (by decide), fun pr3 hpr3 => ?_⟩⟩⟩
        obtain ⟨J8, eJ8, y8, q5, q6⟩ := refs5 hD3 rp3 hpt3 hpl3 hpr3
        rw [eJ8]
        refine ⟨_, _, q5, q6, by decide +kernel, by decide +kernel, ?_⟩
        have e : (if false = true then !PyData.eqv (.list (List.replicate 5 (refD 0))) (.list (List.replicate 5 (refD 0))) else PyData.eqv (.list (List.replicate 5 (refD 0))) (.list (List.replicate 5 (refD 0)))) = true := by
          rw [if_neg Bool.false_ne_true]; exact eqv_refl _ (by decide +kernel)
        rw [e]
        exact k _
end
end Kn
end
section
set_option Elab.async false
set_option linter.all false
set_option maxRecDepth 100000
set_option maxHeartbeats 4000000
namespace Kn
open PySem L2
def Has (K : PySem.W.Frag) (x : Str) (st : Stmt) (ps : List Str) : Prop :=
  ∃ (f : Addr) (fd : FuncData), PySem.W.nsIn K mainGlobals x = some (some (.ref f)) ∧ Fun K x x st f fd ∧ PySem.W.keepIn K (.ref f) = true ∧ Binds K fd ps []
theorem has_mk {K : PySem.W.Frag} {x : Str} {st : Stmt} {f : Addr} {oc kV dc pm cd ct : Value} {od an : Option Addr} {sl : Array (Option Value)} (ps : List Str)
    (hb : ∀ (fd : FuncData), Fun K x x st f fd → Binds K fd ps [])
    (a : PySem.W.nsIn K mainGlobals x = some (some (.ref f))) (l : K.lookup f = some ⟨oc, od, .func (PySem.W.fnOf x x (defArgs st) (defBody st) (defScope st) .none kV dc pm an cd ct), sl⟩) (c : PySem.W.codeIn K cd x = true) (k : PySem.W.keepIn K (.ref f) = true) : Has K x st ps :=
  ⟨f, _, a, fun_mk (st := st) l c k, k, hb _ (fun_mk (st := st) l c k)⟩
structure Top (K : PySem.W.Frag) : Prop where
  is_name : Has K "is_name" sIsName ["thing"]
  is_book : Has K "is_book" sIsBook ["thing"]
  is_whole : Has K "is_whole" sIsWhole ["thing", "least", "most"]
  is_order : Has K "is_order" sIsOrder ["thing"]
  need_book : Has K "need_book" sNeedBook ["thing"]
  need_order : Has K "need_order" sNeedOrder ["thing"]
  need_name : Has K "need_name" sNeedName ["thing"]
  end_of : Has K "end_of" sEnd ["text", "order"]
  ends : Has K "ends_and_letters" sEnds ["name", "order"]
  rows : Has K "counted_rows" sRows ["book", "order"]
  gcd : Has K "greatest_divisor" sGcd ["one", "other"]
  low : Has K "lowest" sLow ["up", "down"]
  added : Has K "added" sAdded ["one", "other"]
  times : Has K "times" sTimes ["one", "other"]
  less : Has K "less" sTaken ["one", "other"]
  is_less : Has K "is_less" sLess ["one", "other"]
  part_in : Has K "part_in" sPart ["row", "letter"]
  stepsR : Has K "steps_by_rows" sStepsR ["rows", "order", "name"]
  shareR : Has K "share_by_rows" sShareR ["rows", "order", "name"]
  steps : Has K "steps" sSteps ["book", "order", "name"]
  share : Has K "share" sShare ["book", "order", "name"]
  makes : Has K "makes" sMakes ["book", "order", "name"]
  likelier : Has K "likelier" sLik ["book", "order", "one", "other"]
  cell : Has K "_law_cell" sCell ["_law_script", "_law_k"]
  drawn : Has K "_law_drawn" sDrawn ["_law_script", "_law_k", "_law_many"]
  lname : Has K "_law_name" sName ["_law_script", "_law_at", "_law_most"]
  lbook : Has K "_law_book" sBook ["_law_script", "_law_at", "_law_many", "_law_most"]
  lcounts : Has K "_law_counts" sCounts ["_law_book_here", "_law_order"]
  lrow : Has K "_law_row" sRowL ["_law_book_here", "_law_order", "_law_text"]
  llow : Has K "_law_lowest" sPartL ["_law_up", "_law_down"]
  lshare : Has K "_law_share" sShareL ["_law_book_here", "_law_order", "_law_name_here"]
  lsum : Has K "_law_sum" sSum ["_law_rows"]
  lrefused : Has K "_law_refused" sRefused ["_law_e"]
  ltold : Has K "_law_told" sTold ["_law_way", "_law_book_here", "_law_order", "_law_name_here"]
  lfit : Has K "_law_fractions_fit" sFit ["_law_one", "_law_other"]
  lbest : Has K "_law_best" sBest ["_law_book_here", "_law_order", "_law_name_here", "_law_other"]
  lsteps : Has K "_law_steps" sStepsL ["_law_book_here", "_law_order", "_law_name_here"]
  letters : ∃ t, PySem.W.nsIn K mainGlobals "LETTERS" = some (some (.str letters t))
  ml : ∃ t, PySem.W.nsIn K mainGlobals "MOST_LETTERS" = some (some (.int 8 t))
  mn : ∃ t, PySem.W.nsIn K mainGlobals "MOST_NAMES" = some (some (.int 8 t))
  mo : ∃ t, PySem.W.nsIn K mainGlobals "MOST_ORDER" = some (some (.int 3 t))
  ib : PySem.W.kitOne K (.type "int") (.type "bool") = some false
  nought : ∃ a, PySem.W.nsIn K mainGlobals "NOUGHT" = some (some (.ref a)) ∧ ∀ H, SqT K H a [.int 0, .int 1]
  whole : ∃ a, PySem.W.nsIn K mainGlobals "WHOLE" = some (some (.ref a)) ∧ ∀ H, SqT K H a [.int 1, .int 1]
  errs : ∃ cs L, ∀ (h : Heap) (mg : Str → Option Value), K.In h → h.Ns mainGlobals mg → ErrX K mg cs L
  kitf : KitF K
  zlen : PySem.W.nsIn K mainGlobals "len" = some none
  zrange : PySem.W.nsIn K mainGlobals "range" = some none
  zall : PySem.W.nsIn K mainGlobals "all" = some none
  zisinstance : PySem.W.nsIn K mainGlobals "isinstance" = some none
  zstr : PySem.W.nsIn K mainGlobals "str" = some none
  ztuple : PySem.W.nsIn K mainGlobals "tuple" = some none
  zint : PySem.W.nsIn K mainGlobals "int" = some none
  zbool : PySem.W.nsIn K mainGlobals "bool" = some none
  zsorted : PySem.W.nsIn K mainGlobals "sorted" = some none
  zsum : PySem.W.nsIn K mainGlobals "sum" = some none
  zmin : PySem.W.nsIn K mainGlobals "min" = some none
  zmax : PySem.W.nsIn K mainGlobals "max" = some none
  zdict : PySem.W.nsIn K mainGlobals "dict" = some none
  zlist : PySem.W.nsIn K mainGlobals "list" = some none
  zValueError : PySem.W.nsIn K mainGlobals "ValueError" = some none
theorem letters_eq : (Str.ofString "abcdefghijklmnopqrstuvwxyz") = letters := by decide +kernel
theorem lets_mk {K : PySem.W.Frag} {t : Tok} (h : PySem.W.nsIn K mainGlobals "LETTERS" = some (some (.str (Str.ofString "abcdefghijklmnopqrstuvwxyz") t))) : ∃ t, PySem.W.nsIn K mainGlobals "LETTERS" = some (some (.str letters t)) := by
  rw [letters_eq] at h; exact ⟨t, h⟩
theorem int_mk {K : PySem.W.Frag} {x : Str} {i : Int} {t : Tok} (h : PySem.W.nsIn K mainGlobals x = some (some (.int i t))) : ∃ t, PySem.W.nsIn K mainGlobals x = some (some (.int i t)) := ⟨t, h⟩
theorem two_mk {K : PySem.W.Frag} {x : Str} {a : Addr} {i j : Int} {t t' : Tok} {n : Nat} {dd : Option Addr} {sl : Array (Option Value)} (h : PySem.W.nsIn K mainGlobals x = some (some (.ref a)))
    (l : K.lookup a = some ⟨.type "tuple", dd, .seq #[.int i t, .int j t'] n, sl⟩) : ∃ a, PySem.W.nsIn K mainGlobals x = some (some (.ref a)) ∧ ∀ H, SqT K H a [.int i, .int j] :=
  ⟨a, h, fun H => .inr ⟨_, _, _, l, rfl, rfl, by show 2 ≤ sizeLine; decide, .cons ⟨t, rfl⟩ (.cons ⟨t', rfl⟩ .nil)⟩⟩
section
variable {P : Program} {w : World} {K : PySem.W.Frag} {mg : Str → Option Value} {base : Heap} {h : Heap}
theorem cal_of {x : Str} {st : Stmt} {ps : List Str} {k : Nat} {sp : Sp} (X : K.In h) (G : h.Ns mainGlobals mg) (H : Has K x st ps) (ok : ∀ (f : Addr) (fd : FuncData), Fun K x x st f fd → FnOk P w K mg base CX0 k f fd ps sp) : Cal P w K mg base k x ps sp := by
  obtain ⟨f, fd, a, F, kp, b⟩ := H
  exact ⟨f, fd, ok f fd F, PySem.W.mg_of X G a, kp, b⟩
theorem cal_ofR {x : Str} {st : Stmt} {ps : List Str} {k : Nat} {sp : Sp} (X : K.In h) (G : h.Ns mainGlobals mg) (H : Has K x st ps) (ok : ∀ (f : Addr) (fd : FuncData), Fun K x x st f fd → FnOk P w K mg base (CXr P w) k f fd ps sp) : CalR P w K mg base k x ps sp := by
  obtain ⟨f, fd, a, F, kp, b⟩ := H
  exact ⟨f, fd, ok f fd F, PySem.W.mg_of X G a, kp, b⟩
theorem cal_ofB {x : Str} {st : Stmt} {ps : List Str} {k : Nat} {sp : Sp} (X : K.In h) (G : h.Ns mainGlobals mg) (H : Has K x st ps) (ok : ∀ (f : Addr) (fd : FuncData), Fun K x x st f fd → FnB P w K mg base CX0 k f fd ps sp) : CalB P w K mg base k x ps sp := by
  obtain ⟨f, fd, a, F, kp, b⟩ := H
  exact ⟨f, fd, ok f fd F, PySem.W.mg_of X G a, kp, b⟩
theorem law_mk (X : K.In h) (G : h.Ns mainGlobals mg) (T : Top K) {f : Addr} {fd : FuncData} (F : Fun K "law" "law" sLaw f fd) : FnOk P w K mg base CX0 9 f fd ["_law_script"] (spLaw K) := by
  have B : Blt mg := ⟨PySem.W.mg_none_of X G T.zlen, PySem.W.mg_none_of X G T.zrange, PySem.W.mg_none_of X G T.zall, PySem.W.mg_none_of X G T.zisinstance, PySem.W.mg_none_of X G T.zstr, PySem.W.mg_none_of X G T.ztuple, PySem.W.mg_none_of X G T.zint, PySem.W.mg_none_of X G T.zbool, PySem.W.mg_none_of X G T.zsorted, PySem.W.mg_none_of X G T.zsum, PySem.W.mg_none_of X G T.zmin⟩
  have C : Cst K mg := ⟨let ⟨t, e⟩ := T.letters; ⟨t, PySem.W.mg_of X G e⟩, let ⟨t, e⟩ := T.ml; ⟨t, PySem.W.mg_of X G e⟩, let ⟨t, e⟩ := T.mn; ⟨t, PySem.W.mg_of X G e⟩, let ⟨t, e⟩ := T.mo; ⟨t, PySem.W.mg_of X G e⟩, T.ib⟩
  have C2 : Cst2 K mg := ⟨let ⟨a, e, q⟩ := T.nought; ⟨a, PySem.W.mg_of X G e, q⟩, let ⟨a, e, q⟩ := T.whole; ⟨a, PySem.W.mg_of X G e, q⟩⟩
  obtain ⟨cs, L, hE⟩ := T.errs
  have E := hE h mg X G
  have KF := T.kitf
  have BE : BltE mg := ⟨PySem.W.mg_none_of X G T.zisinstance, PySem.W.mg_none_of X G T.zValueError⟩
  have B2 : Blt2 mg := ⟨PySem.W.mg_none_of X G T.zmax, PySem.W.mg_none_of X G T.zdict, PySem.W.mg_none_of X G T.zlist⟩
  have cEnd := cal_of (P := P) (w := w) (base := base) X G T.end_of fun f fd F => ok_end F
  have cEnds := cal_of (P := P) (w := w) (base := base) X G T.ends fun f fd F => ok_ends F B cEnd
  have cIsName := cal_of (P := P) (w := w) (base := base) X G T.is_name fun f fd F => ok_isnameT F B C KF
  have cIsBook := cal_of (P := P) (w := w) (base := base) X G T.is_book fun f fd F => ok_isbookT F B C KF cIsName
  have cIsWhole := cal_of (P := P) (w := w) (base := base) X G T.is_whole fun f fd F => ok_iswholeT F B C KF
  have cIsOrder := cal_of (P := P) (w := w) (base := base) X G T.is_order fun f fd F => ok_isorderT F C cIsWhole
  have cNB := cal_ofR (P := P) (w := w) (base := base) X G T.need_book fun f fd F => ok_needbookR F (E.at_ 0 (by decide)).1 cIsBook
  have cNO := cal_ofR (P := P) (w := w) (base := base) X G T.need_order fun f fd F => ok_needorderR F (E.at_ 1 (by decide)).1 cIsOrder
  have cNN := cal_ofR (P := P) (w := w) (base := base) X G T.need_name fun f fd F => ok_neednameR F (E.at_ 2 (by decide)).1 cIsName
  have cRows := cal_of (P := P) (w := w) (base := base) X G T.rows fun f fd F => ok_rows F cEnds
  have N : NeedsR P w K mg base (cs.getD 0 0) (cs.getD 1 0) (cs.getD 2 0) := ⟨cNB, cNO, cNN, cRows⟩
  have cGcd := cal_of (P := P) (w := w) (base := base) X G T.gcd fun f fd F => ok_gcd F
  have cLow := cal_of (P := P) (w := w) (base := base) X G T.low fun f fd F => ok_low F cGcd
  have cTimes := cal_of (P := P) (w := w) (base := base) X G T.times fun f fd F => ok_times F cLow
  have cLess := cal_of (P := P) (w := w) (base := base) X G T.is_less fun f fd F => ok_less F
  have cPart := cal_of (P := P) (w := w) (base := base) X G T.part_in fun f fd F => ok_part F B C2 cLow
  have cStR := cal_of (P := P) (w := w) (base := base) X G T.stepsR fun f fd F => ok_stepsR F cEnds cPart
  have cShR := cal_of (P := P) (w := w) (base := base) X G T.shareR fun f fd F => ok_shareR F C2 cStR cTimes
  have cSt := cal_ofR (P := P) (w := w) (base := base) X G T.steps fun f fd F => ok_stepsX F N cStR
  have cSh := cal_ofR (P := P) (w := w) (base := base) X G T.share fun f fd F => ok_shareX F N cShR
  have cMk := cal_ofR (P := P) (w := w) (base := base) X G T.makes fun f fd F => ok_makesX F C2 cSh cLess
  have cLk := cal_ofR (P := P) (w := w) (base := base) X G T.likelier fun f fd F => ok_likX F B N cShR cLess
  have cGcdW := cal_of (P := P) (w := w) (base := base) X G T.gcd fun f fd F => ok_gcdW F
  have cLowW := cal_of (P := P) (w := w) (base := base) X G T.low fun f fd F => ok_lowW F cGcdW
  have cTimesW := cal_of (P := P) (w := w) (base := base) X G T.times fun f fd F => ok_timesW F cLowW
  have cAddW := cal_of (P := P) (w := w) (base := base) X G T.added fun f fd F => ok_addedW F cLowW
  have cTakenW := cal_of (P := P) (w := w) (base := base) X G T.less fun f fd F => ok_takenW F cLowW
  have cLessW := cal_of (P := P) (w := w) (base := base) X G T.is_less fun f fd F => ok_lessW F
  have cCell := cal_of (P := P) (w := w) (base := base) X G T.cell fun f fd F => ok_cell F B
  have cDrawn := cal_of (P := P) (w := w) (base := base) X G T.drawn fun f fd F => ok_drawn F cCell
  have cName := cal_of (P := P) (w := w) (base := base) X G T.lname fun f fd F => ok_name F B cDrawn
  have cBook := cal_of (P := P) (w := w) (base := base) X G T.lbook fun f fd F => ok_book F B cDrawn cName
  have cCounts := cal_of (P := P) (w := w) (base := base) X G T.lcounts fun f fd F => ok_counts F B
  have cRowL := cal_of (P := P) (w := w) (base := base) X G T.lrow fun f fd F => ok_rowL F B cCounts
  have cLL := cal_of (P := P) (w := w) (base := base) X G T.llow fun f fd F => ok_partL F
  have cShL := cal_of (P := P) (w := w) (base := base) X G T.lshare fun f fd F => ok_shareL F B B2 cRowL cLL
  have cStL := cal_of (P := P) (w := w) (base := base) X G T.lsteps fun f fd F => ok_stepsL F B cRowL cLL
  have cSum := cal_of (P := P) (w := w) (base := base) X G T.lsum fun f fd F => ok_sum F cLL
  have cFit := cal_of (P := P) (w := w) (base := base) X G T.lfit fun f fd F => ok_fit F cAddW cTakenW cLessW cSum
  have cBest := cal_of (P := P) (w := w) (base := base) X G T.lbest fun f fd F => ok_best F B cShL
  have cRef := cal_ofB (P := P) (w := w) (base := base) X G T.lrefused fun f fd F => ok_refused F BE E
  have cTold := cal_of (P := P) (w := w) (base := base) X G T.ltold fun f fd F => ok_told5 F E cSt cSh cMk cLk cRef
  exact ok_law F B B2 ⟨cDrawn, cName, cBook, cShL, cStL, cBest, cTold, cTimesW, cLL, cFit⟩
end
theorem all_mk {l : PySem.W.OpenLaw} {w : World} {K : PySem.W.Frag} {h : Heap} {mg : Str → Option Value} {fa f4 : Addr} (X : K.In h) (G : h.Ns mainGlobals mg) (hfa : mg "law" = some (.ref fa))
    {od4 an4 : Option Addr} {sl4 : Array (Option Value)} {oc4 kV4 dc4 pm4 cd4 ct4 : Value} (T : Top K)
    (a4 : PySem.W.nsIn K mainGlobals "law" = some (some (.ref f4))) (l4 : K.lookup f4 = some ⟨oc4, od4, .func (PySem.W.fnOf "law" "law" (defArgs sLaw) (defBody sLaw) (defScope sLaw) .none kV4 dc4 pm4 an4 cd4 ct4), sl4⟩) (c4 : PySem.W.codeIn K cd4 "law" = true) (k4 : PySem.W.keepIn K (.ref f4) = true) :
    ∃ fd : FuncData, (∀ (s : Shared) (v : Value), BindsTo s fd ⟨[v], []⟩ [("_law_script", v)]) ∧ ∀ base : Heap, K.In base → base.Ns mainGlobals mg → FnOk l.prog w K mg base CX0 9 fa fd ["_law_script"] (spLaw K) := by
  have e := hfa.symm.trans (PySem.W.mg_of X G a4)
  cases e
  have F4 := fun_mk (st := sLaw) l4 c4 k4
  exact ⟨PySem.W.fnOf "law" "law" (defArgs sLaw) (defBody sLaw) (defScope sLaw) .none kV4 dc4 pm4 an4 cd4 ct4, fun s v => .of_eq rfl, fun base _ _ => law_mk X G T F4⟩
theorem walk {l : PySem.W.OpenLaw} {q : Program} {loose : List Str} {XP : (Str → Option Value) → Heap → Prop} {YP : World → Heap → Prop} {d : DefRec} {K : Params → PySem.W.Frag} (hn : l.most = some 63) (hdf : d.params.defaults = [])
    (hY : ∀ (w : World) (h : Heap), YP w h → (K w.params).In h)
    (F : ∀ (w : World) (mg : Str → Option Value) (fa : Addr) (h : Heap), (K w.params).In h → h.Ns mainGlobals mg → mg d.name = some (.ref fa) →
      ∃ fd : FuncData, (∀ (s : Shared) (u : Value), BindsTo s fd ⟨[u], []⟩ [("_law_script", u)]) ∧ ∀ base : Heap, (K w.params).In base → base.Ns mainGlobals mg → FnOk l.prog w (K w.params) mg base CX0 9 fa fd ["_law_script"] (spLaw (K w.params))) :
    PySem.W.WalkO q loose XP YP l.row.toRowW d [] (fun f vs => PySem.call f vs) :=
  L2.walk_of (n := 63) (k := 9) (x := "_law_script") (CX := fun _ => CX0) (sp := fun w => spLaw (K w.params)) hn (by decide) hdf ⟨rfl, by decide, by decide⟩ hY F (fun _ _ a ns hl _ hS => ⟨a, ns, rfl, hS, hl, fun _ => rfl⟩) fun _ _ _ _ _ z => z
end Kn
end
section
set_option Elab.async false
set_option linter.all false
open PySem PySem.W PyProof.Rows
set_option maxRecDepth 100000 in
set_option maxHeartbeats 0 in
theorem PySem.Challenge.cw_kinnames_k10_shares_holds : PySem.Challenge.rw_kinnames_k10_shares.Holds := by
  w_on; o_law
  refine PySem.W.holds_open (q := Kn.kq) (loose := Kn.klo) (Xt := fun s => xlAt Kn.kq [] s && recOk [] s) (XP := XL Kn.kq []) (Yf := Hook.obs (kHook Kn.kfr Kn.kas Kn.kas_e)) (Ya := Hook.val (kHook Kn.kfr Kn.kas Kn.kas_e)) (YP := Hook.says (kHook Kn.kfr Kn.kas Kn.kas_e)) (N := 6444) Kn.hl (Hook.of (kHook Kn.kfr Kn.kas Kn.kas_e)) (Hook.keeps (kHook Kn.kfr Kn.kas Kn.kas_e)) (fun s e => xl_of s (Bool.and_eq_true_iff.mp e).1) XL.keeps (by rfl) (by rfl) (by rfl) (fun s e => recFacts_of (Bool.and_eq_true_iff.mp e).2) (by rfl) (by first | assumption | decide +kernel) (by decide +kernel) ⟨rfl, rfl, rfl, rfl, rfl, by decide +kernel⟩ ?hw ?hc
  (case hw => w_witness2)
  k_fill
  refine Kn.walk (l := PySem.Challenge.rw_kinnames_k10_shares) rfl rfl (fun w h Y => PySem.W.kIn_of Y) ?F
  case F =>
    intro w mg fa h KX G hmg
    refine' Kn.all_mk KX G hmg ?T ?a4 ?l4 ?c4 ?k4
    (case T =>
      refine' ⟨?is_name, ?is_book, ?is_whole, ?is_order, ?need_book, ?need_order, ?need_name, ?end_of, ?ends, ?rows, ?gcd, ?low, ?added, ?times, ?less, ?is_less, ?part_in, ?stepsR, ?shareR, ?steps, ?share, ?makes, ?likelier, ?cell, ?drawn, ?lname, ?lbook, ?lcounts, ?lrow, ?llow, ?lshare, ?lsum, ?lrefused, ?ltold, ?lfit, ?lbest, ?lsteps, ?letters, ?ml, ?mn, ?mo, ?ib, ?nought, ?whole, ?errs, ?kitf, ?zlen, ?zrange, ?zall, ?zisinstance, ?zstr, ?ztuple, ?zint, ?zbool, ?zsorted, ?zsum, ?zmin, ?zmax, ?zdict, ?zlist, ?zValueError⟩
      (case is_name => refine' Kn.has_mk _ (fun fd F => F.binds fun _ _ _ _ _ _ us hl => match us, hl with | [_], _ => rfl) ?kna ?knl ?knc ?knk; (case kna => k_is); (case knl => k_is); (case knc => k_is); (case knk => k_is))
      (case is_book => refine' Kn.has_mk _ (fun fd F => F.binds fun _ _ _ _ _ _ us hl => match us, hl with | [_], _ => rfl) ?kna ?knl ?knc ?knk; (case kna => k_is); (case knl => k_is); (case knc => k_is); (case knk => k_is))
      (case is_whole => refine' Kn.has_mk _ (fun fd F => F.binds fun _ _ _ _ _ _ us hl => match us, hl with | [_, _, _], _ => rfl) ?kna ?knl ?knc ?knk; (case kna => k_is); (case knl => k_is); (case knc => k_is); (case knk => k_is))
      (case is_order => refine' Kn.has_mk _ (fun fd F => F.binds fun _ _ _ _ _ _ us hl => match us, hl with | [_], _ => rfl) ?kna ?knl ?knc ?knk; (case kna => k_is); (case knl => k_is); (case knc => k_is); (case knk => k_is))
      (case need_book => refine' Kn.has_mk _ (fun fd F => F.binds fun _ _ _ _ _ _ us hl => match us, hl with | [_], _ => rfl) ?kna ?knl ?knc ?knk; (case kna => k_is); (case knl => k_is); (case knc => k_is); (case knk => k_is))
      (case need_order => refine' Kn.has_mk _ (fun fd F => F.binds fun _ _ _ _ _ _ us hl => match us, hl with | [_], _ => rfl) ?kna ?knl ?knc ?knk; (case kna => k_is); (case knl => k_is); (case knc => k_is); (case knk => k_is))
      (case need_name => refine' Kn.has_mk _ (fun fd F => F.binds fun _ _ _ _ _ _ us hl => match us, hl with | [_], _ => rfl) ?kna ?knl ?knc ?knk; (case kna => k_is); (case knl => k_is); (case knc => k_is); (case knk => k_is))
      (case end_of => refine' Kn.has_mk _ (fun fd F => F.binds fun _ _ _ _ _ _ us hl => match us, hl with | [_, _], _ => rfl) ?kna ?knl ?knc ?knk; (case kna => k_is); (case knl => k_is); (case knc => k_is); (case knk => k_is))
      (case ends => refine' Kn.has_mk _ (fun fd F => F.binds fun _ _ _ _ _ _ us hl => match us, hl with | [_, _], _ => rfl) ?kna ?knl ?knc ?knk; (case kna => k_is); (case knl => k_is); (case knc => k_is); (case knk => k_is))
      (case rows => refine' Kn.has_mk _ (fun fd F => F.binds fun _ _ _ _ _ _ us hl => match us, hl with | [_, _], _ => rfl) ?kna ?knl ?knc ?knk; (case kna => k_is); (case knl => k_is); (case knc => k_is); (case knk => k_is))
      (case gcd => refine' Kn.has_mk _ (fun fd F => F.binds fun _ _ _ _ _ _ us hl => match us, hl with | [_, _], _ => rfl) ?kna ?knl ?knc ?knk; (case kna => k_is); (case knl => k_is); (case knc => k_is); (case knk => k_is))
      (case low => refine' Kn.has_mk _ (fun fd F => F.binds fun _ _ _ _ _ _ us hl => match us, hl with | [_, _], _ => rfl) ?kna ?knl ?knc ?knk; (case kna => k_is); (case knl => k_is); (case knc => k_is); (case knk => k_is))
      (case added => refine' Kn.has_mk _ (fun fd F => F.binds fun _ _ _ _ _ _ us hl => match us, hl with | [_, _], _ => rfl) ?kna ?knl ?knc ?knk; (case kna => k_is); (case knl => k_is); (case knc => k_is); (case knk => k_is))
      (case times => refine' Kn.has_mk _ (fun fd F => F.binds fun _ _ _ _ _ _ us hl => match us, hl with | [_, _], _ => rfl) ?kna ?knl ?knc ?knk; (case kna => k_is); (case knl => k_is); (case knc => k_is); (case knk => k_is))
      (case less => refine' Kn.has_mk _ (fun fd F => F.binds fun _ _ _ _ _ _ us hl => match us, hl with | [_, _], _ => rfl) ?kna ?knl ?knc ?knk; (case kna => k_is); (case knl => k_is); (case knc => k_is); (case knk => k_is))
      (case is_less => refine' Kn.has_mk _ (fun fd F => F.binds fun _ _ _ _ _ _ us hl => match us, hl with | [_, _], _ => rfl) ?kna ?knl ?knc ?knk; (case kna => k_is); (case knl => k_is); (case knc => k_is); (case knk => k_is))
      (case part_in => refine' Kn.has_mk _ (fun fd F => F.binds fun _ _ _ _ _ _ us hl => match us, hl with | [_, _], _ => rfl) ?kna ?knl ?knc ?knk; (case kna => k_is); (case knl => k_is); (case knc => k_is); (case knk => k_is))
      (case stepsR => refine' Kn.has_mk _ (fun fd F => F.binds fun _ _ _ _ _ _ us hl => match us, hl with | [_, _, _], _ => rfl) ?kna ?knl ?knc ?knk; (case kna => k_is); (case knl => k_is); (case knc => k_is); (case knk => k_is))
      (case shareR => refine' Kn.has_mk _ (fun fd F => F.binds fun _ _ _ _ _ _ us hl => match us, hl with | [_, _, _], _ => rfl) ?kna ?knl ?knc ?knk; (case kna => k_is); (case knl => k_is); (case knc => k_is); (case knk => k_is))
      (case steps => refine' Kn.has_mk _ (fun fd F => F.binds fun _ _ _ _ _ _ us hl => match us, hl with | [_, _, _], _ => rfl) ?kna ?knl ?knc ?knk; (case kna => k_is); (case knl => k_is); (case knc => k_is); (case knk => k_is))
      (case share => refine' Kn.has_mk _ (fun fd F => F.binds fun _ _ _ _ _ _ us hl => match us, hl with | [_, _, _], _ => rfl) ?kna ?knl ?knc ?knk; (case kna => k_is); (case knl => k_is); (case knc => k_is); (case knk => k_is))
      (case makes => refine' Kn.has_mk _ (fun fd F => F.binds fun _ _ _ _ _ _ us hl => match us, hl with | [_, _, _], _ => rfl) ?kna ?knl ?knc ?knk; (case kna => k_is); (case knl => k_is); (case knc => k_is); (case knk => k_is))
      (case likelier => refine' Kn.has_mk _ (fun fd F => F.binds fun _ _ _ _ _ _ us hl => match us, hl with | [_, _, _, _], _ => rfl) ?kna ?knl ?knc ?knk; (case kna => k_is); (case knl => k_is); (case knc => k_is); (case knk => k_is))
      (case cell => refine' Kn.has_mk _ (fun fd F => F.binds fun _ _ _ _ _ _ us hl => match us, hl with | [_, _], _ => rfl) ?kna ?knl ?knc ?knk; (case kna => k_is); (case knl => k_is); (case knc => k_is); (case knk => k_is))
      (case drawn => refine' Kn.has_mk _ (fun fd F => F.binds fun _ _ _ _ _ _ us hl => match us, hl with | [_, _, _], _ => rfl) ?kna ?knl ?knc ?knk; (case kna => k_is); (case knl => k_is); (case knc => k_is); (case knk => k_is))
      (case lname => refine' Kn.has_mk _ (fun fd F => F.binds fun _ _ _ _ _ _ us hl => match us, hl with | [_, _, _], _ => rfl) ?kna ?knl ?knc ?knk; (case kna => k_is); (case knl => k_is); (case knc => k_is); (case knk => k_is))
      (case lbook => refine' Kn.has_mk _ (fun fd F => F.binds fun _ _ _ _ _ _ us hl => match us, hl with | [_, _, _, _], _ => rfl) ?kna ?knl ?knc ?knk; (case kna => k_is); (case knl => k_is); (case knc => k_is); (case knk => k_is))
      (case lcounts => refine' Kn.has_mk _ (fun fd F => F.binds fun _ _ _ _ _ _ us hl => match us, hl with | [_, _], _ => rfl) ?kna ?knl ?knc ?knk; (case kna => k_is); (case knl => k_is); (case knc => k_is); (case knk => k_is))
      (case lrow => refine' Kn.has_mk _ (fun fd F => F.binds fun _ _ _ _ _ _ us hl => match us, hl with | [_, _, _], _ => rfl) ?kna ?knl ?knc ?knk; (case kna => k_is); (case knl => k_is); (case knc => k_is); (case knk => k_is))
      (case llow => refine' Kn.has_mk _ (fun fd F => F.binds fun _ _ _ _ _ _ us hl => match us, hl with | [_, _], _ => rfl) ?kna ?knl ?knc ?knk; (case kna => k_is); (case knl => k_is); (case knc => k_is); (case knk => k_is))
      (case lshare => refine' Kn.has_mk _ (fun fd F => F.binds fun _ _ _ _ _ _ us hl => match us, hl with | [_, _, _], _ => rfl) ?kna ?knl ?knc ?knk; (case kna => k_is); (case knl => k_is); (case knc => k_is); (case knk => k_is))
      (case lsum => refine' Kn.has_mk _ (fun fd F => F.binds fun _ _ _ _ _ _ us hl => match us, hl with | [_], _ => rfl) ?kna ?knl ?knc ?knk; (case kna => k_is); (case knl => k_is); (case knc => k_is); (case knk => k_is))
      (case lrefused => refine' Kn.has_mk _ (fun fd F => F.binds fun _ _ _ _ _ _ us hl => match us, hl with | [_], _ => rfl) ?kna ?knl ?knc ?knk; (case kna => k_is); (case knl => k_is); (case knc => k_is); (case knk => k_is))
      (case ltold => refine' Kn.has_mk _ (fun fd F => F.binds fun _ _ _ _ _ _ us hl => match us, hl with | [_, _, _, _], _ => rfl) ?kna ?knl ?knc ?knk; (case kna => k_is); (case knl => k_is); (case knc => k_is); (case knk => k_is))
      (case lfit => refine' Kn.has_mk _ (fun fd F => F.binds fun _ _ _ _ _ _ us hl => match us, hl with | [_, _], _ => rfl) ?kna ?knl ?knc ?knk; (case kna => k_is); (case knl => k_is); (case knc => k_is); (case knk => k_is))
      (case lbest => refine' Kn.has_mk _ (fun fd F => F.binds fun _ _ _ _ _ _ us hl => match us, hl with | [_, _, _, _], _ => rfl) ?kna ?knl ?knc ?knk; (case kna => k_is); (case knl => k_is); (case knc => k_is); (case knk => k_is))
      (case lsteps => refine' Kn.has_mk _ (fun fd F => F.binds fun _ _ _ _ _ _ us hl => match us, hl with | [_, _, _], _ => rfl) ?kna ?knl ?knc ?knk; (case kna => k_is); (case knl => k_is); (case knc => k_is); (case knk => k_is))
      (case letters => refine' Kn.lets_mk ?knq; (case knq => k_is))
      (case ml => refine' Kn.int_mk ?knq; (case knq => k_is))
      (case mn => refine' Kn.int_mk ?knq; (case knq => k_is))
      (case mo => refine' Kn.int_mk ?knq; (case knq => k_is))
      (case ib => first | rfl | kernel_rfl | decide +kernel)
      (case nought => refine' Kn.two_mk ?knq ?knr; (case knq => k_is); (case knr => k_is))
      (case whole => refine' Kn.two_mk ?knq ?knr; (case knq => k_is); (case knr => k_is))
      (case errs => refine' Kn.errs_top ?e0 ?e1 ?e2 ?e3 ?e4 ?e5 ?e6 ?e7 ?eL ?eK; (case e0 => k_is); (case e1 => k_is); (case e2 => k_is); (case e3 => k_is); (case e4 => k_is); (case e5 => k_is); (case e6 => k_is); (case e7 => k_is); (case eL => k_is); (case eK => first | rfl | kernel_rfl | decide +kernel))
      (case kitf => constructor <;> first | rfl | kernel_rfl | decide +kernel)
      (case zlen => k_is)
      (case zrange => k_is)
      (case zall => k_is)
      (case zisinstance => k_is)
      (case zstr => k_is)
      (case ztuple => k_is)
      (case zint => k_is)
      (case zbool => k_is)
      (case zsorted => k_is)
      (case zsum => k_is)
      (case zmin => k_is)
      (case zmax => k_is)
      (case zdict => k_is)
      (case zlist => k_is)
      (case zValueError => k_is))
    (case a4 => k_is); (case l4 => k_is); (case c4 => k_is); (case k4 => k_is)
end
