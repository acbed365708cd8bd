import PyProof.Rows.All
import Wide.All
import OpenK.AllK
import Wide.FinOn
import Lean
import PyProof.EqAt
import PyProof.EqKinds
import PyProof.TupleCall
import PyProof.CompFree
import KE.KSortAsk
import KE.KSortTup
import KE.KRevSl
import PyProof.AttrMissSeq
import KE.KDictOf
import PyProof.StationsW
import PyProof.Rows.Catch
import PyProof.ExcClass3
import PyProof.ExcBaseAll.ValueError
import OpenK.KOwn
import KE.KIsAll
import PyProof.ExcAttrAll.ValueError
import PyProof.ListMulRoad
import PyProof.StrOps2
import PyProof.FactsAll.tuple_2
import PyProof.Rows.Range3
import PyProof.ZipIter
import PyProof.Draws
import PyProof.TupleIter
import PyProof.Rows.ZipGen
import PyProof.WalksMore
import PyProof.Rows.InDataRows
import PyProof.Rows.SetFrom
import KE.KxText
import PySem.Challenge.RW_kinnames_k30_wishes
section
set_option Elab.async false
set_option linter.all false
set_option maxRecDepth 100000
namespace L2
open PySem PySem.Spec PyProof.Rows
abbrev Key := Sum Int Str
def keyIs : Key → Value → Bool
  | .inl k, v => Value.isInt k v
  | .inr x, v => Value.isStrOf x v
def keyH (w : World) : Key → Int
  | .inl k => hashInt k
  | .inr x => hashStr w x
theorem keyIs_shape : ∀ {k : Key} {v : Value}, keyIs k v = true → (∃ i t, k = Sum.inl i ∧ v = Value.int i t) ∨ (∃ x t, k = Sum.inr x ∧ v = Value.str x t)
  | .inl i, v, h => by
    obtain ⟨t, e⟩ := Value.isInt_shape (k := i) (v := v) h
    exact .inl ⟨i, t, rfl, e⟩
  | .inr x, v, h => by
    obtain ⟨t, e⟩ := Value.isStrOf_shape (x := x) (v := v) h
    exact .inr ⟨x, t, rfl, e⟩
theorem key_ll (a b : Int) : decide ((Sum.inl a : Key) = Sum.inl b) = (a == b) := by
  by_cases e : a = b
  · subst e; simp
  · have h : ¬ (Sum.inl a : Key) = Sum.inl b := fun q => e (Sum.inl.inj q)
    rw [decide_eq_false h]
    exact (beq_eq_false_iff_ne.mpr e).symm
theorem key_rr (a b : Str) : decide ((Sum.inr a : Key) = Sum.inr b) = decide (a = b) := by
  by_cases e : a = b
  · subst e; simp
  · have h : ¬ (Sum.inr a : Key) = Sum.inr b := fun q => e (Sum.inr.inj q)
    rw [decide_eq_false h, decide_eq_false e]
theorem key_lr (a : Int) (b : Str) : decide ((Sum.inl a : Key) = Sum.inr b) = false := decide_eq_false (fun q => nomatch q)
theorem key_rl (a : Str) (b : Int) : decide ((Sum.inr a : Key) = Sum.inl b) = false := decide_eq_false (fun q => nomatch q)
def mixKind (prog : Program) (w : World) : PySem.KeyKind prog w Key where
  is := keyIs
  hash := keyH w
  inj := fun v a b ha hb => by
    rcases keyIs_shape ha with ⟨i, t, rfl, rfl⟩ | ⟨x, t, rfl, rfl⟩
    · rcases keyIs_shape hb with ⟨j, u, rfl, e⟩ | ⟨y, u, rfl, e⟩
      · injection e with e1 _; rw [e1]
      · exact nomatch e
    · rcases keyIs_shape hb with ⟨j, u, rfl, e⟩ | ⟨y, u, rfl, e⟩
      · exact nomatch e
      · injection e with e1 _; rw [e1]
  byValue := fun k v h => by
    rcases keyIs_shape h with ⟨i, t, rfl, rfl⟩ | ⟨x, t, rfl, rfl⟩ <;> rfl
  pyHash := fun hv h => by
    rcases keyIs_shape hv with ⟨i, t, rfl, rfl⟩ | ⟨x, t, rfl, rfl⟩
    · exact wpAny_pyHash_int h
    · exact wpAny_pyHash_str h
  eqBool := fun hu hv h => by
    rcases keyIs_shape hu with ⟨i, t, rfl, rfl⟩ | ⟨x, t, rfl, rfl⟩
    · rcases keyIs_shape hv with ⟨j, u, rfl, rfl⟩ | ⟨y, u, rfl, rfl⟩
      · rw [key_ll] at h; exact wpAny_eqBool_int h
      · rw [key_lr] at h; exact SeqAt.EqAt.int_str i t y u _ _ _ _ h
    · rcases keyIs_shape hv with ⟨j, u, rfl, rfl⟩ | ⟨y, u, rfl, rfl⟩
      · rw [key_rl] at h; exact SeqAt.EqAt.str_int x t j u _ _ _ _ h
      · rw [key_rr] at h; exact wpAny_eqBool_str h
  «strs» := fun k x t v h => by
    rcases keyIs_shape h with ⟨i, u, rfl, e⟩ | ⟨y, u, rfl, e⟩
    · exact nomatch e
    · injection e with e1 _
      subst e1
      cases v <;> rfl
abbrev TKey := Sum Str Bool
def tkIs : TKey → Value → Bool
  | .inl x, v => Value.isStrOf x v
  | .inr b, v => v == Value.bool b
theorem tkIs_shape : ∀ {k : TKey} {v : Value}, tkIs k v = true → (∃ x t, k = Sum.inl x ∧ v = Value.str x t) ∨ (∃ b, k = Sum.inr b ∧ v = Value.bool b)
  | .inl x, v, h => by
    obtain ⟨t, e⟩ := Value.isStrOf_shape (x := x) (v := v) h
    exact .inl ⟨x, t, rfl, e⟩
  | .inr b, v, h => .inr ⟨b, rfl, eq_of_beq h⟩
def tkH (w : World) : TKey → Int
  | .inl x => hashStr w x
  | .inr b => reduceHash (if b then 1 else 0)
theorem tk_hash {prog : Program} {w : World} {A : Around} {E : Value → Shared → Prop} {s : Shared} {b : Bool} {Q : Int → Shared → Prop} (h : Q (reduceHash (if b then 1 else 0)) { s with toks := s.toks + 1 }) :
    wpAny (model prog w) A (pyHash (.bool b)) Q E s := by
  refine PySem.W.pyHash_slot (T := "bool") rfl F.slot_bool_hash F.entry_int_hash (F.args_int_hash_1 _) (by decide) (.inl (by cases b <;> rfl)) ?_
  unfold Builtin.«int.__hash__»
  cases b
  · wp_walk
    exact ⟨_, _, rfl, h⟩
  · wp_walk
    exact ⟨_, _, rfl, h⟩
def tkKind (prog : Program) (w : World) : PySem.KeyKind prog w TKey where
  is := tkIs
  hash := tkH w
  inj := fun v a b ha hb => by
    rcases tkIs_shape ha with ⟨x, t, rfl, rfl⟩ | ⟨c, rfl, rfl⟩
    · rcases tkIs_shape hb with ⟨y, u, rfl, e⟩ | ⟨d, rfl, e⟩
      · injection e with e1 _; rw [e1]
      · exact nomatch e
    · rcases tkIs_shape hb with ⟨y, u, rfl, e⟩ | ⟨d, rfl, e⟩
      · exact nomatch e
      · injection e with e1; rw [e1]
  byValue := fun k v h => by
    rcases tkIs_shape h with ⟨x, t, rfl, rfl⟩ | ⟨c, rfl, rfl⟩ <;> rfl
  pyHash := fun hv h => by
    rcases tkIs_shape hv with ⟨x, t, rfl, rfl⟩ | ⟨c, rfl, rfl⟩
    · exact wpAny_pyHash_str h
    · exact tk_hash h
  eqBool := fun hu hv h => by
    rcases tkIs_shape hu with ⟨x, t, rfl, rfl⟩ | ⟨c, rfl, rfl⟩
    · rcases tkIs_shape hv with ⟨y, u, rfl, rfl⟩ | ⟨d, rfl, rfl⟩
      · have e : decide ((Sum.inl x : TKey) = Sum.inl y) = decide (x = y) := by
          by_cases q : x = y
          · subst q; simp
          · rw [decide_eq_false q, decide_eq_false fun z => q (Sum.inl.inj z)]
        rw [e] at h; exact wpAny_eqBool_str h
      · rw [decide_eq_false (fun q => nomatch q)] at h; exact SeqAt.EqAt.str_bool x t d _ _ _ _ h
    · rcases tkIs_shape hv with ⟨y, u, rfl, rfl⟩ | ⟨d, rfl, rfl⟩
      · rw [decide_eq_false (fun q => nomatch q)] at h; exact SeqAt.EqAt.bool_str c y u _ _ _ _ h
      · refine SeqAt.EqAt.bool_bool c d _ _ _ _ ?_
        have e : decide ((Sum.inr c : TKey) = Sum.inr d) = (c == d) := by cases c <;> cases d <;> rfl
        rw [← e]; exact h
  «strs» := fun k x t v h => by
    rcases tkIs_shape h with ⟨y, u, rfl, e⟩ | ⟨d, rfl, e⟩
    · injection e with e1 _
      subst e1
      cases v <;> rfl
    · exact nomatch e
end L2
namespace L2
open PySem PySem.Spec PyProof.Rows
inductive V where
  | non | bl (b : Bool) | int (i : Int) | str (x : Str) | byt (b : Array UInt8) | flt (b : UInt64) | ref (a : Addr) | ty (n : String)
  deriving DecidableEq
def RelV : V → Value → Prop
  | .non, u => u = Value.none
  | .bl b, u => u = Value.bool b
  | .int i, u => ∃ t, u = Value.int i t
  | .str x, u => ∃ t, u = Value.str x t
  | .byt b, u => ∃ t, u = Value.bytes b t
  | .flt b, u => ∃ t, u = Value.float b t
  | .ref a, u => u = Value.ref a
  | .ty n, u => u = Value.type n
abbrev Vals : List V → List Value → Prop := Paired RelV
theorem Vals.length {xs : List V} {us : List Value} (r : Vals xs us) : xs.length = us.length := Paired.length r
theorem Vals.get : ∀ {xs : List V} {us : List Value} {i : Nat} {x : V}, Vals xs us → xs[i]? = some x → ∃ u, us[i]? = some u ∧ RelV x u
  | _, _, _, _, .nil, e => by simp at e
  | _, _, 0, _, .cons r _, e => by simp at e; subst e; exact ⟨_, rfl, r⟩
  | _, _, i + 1, x, .cons _ t, e => by
    obtain ⟨u, h1, h2⟩ := Vals.get (i := i) (x := x) t (by simpa using e)
    exact ⟨u, by simpa using h1, h2⟩
theorem Vals.set {x : V} {u : Value} (r : RelV x u) : ∀ {xs : List V} {us : List Value} (i : Nat), Vals xs us → Vals (xs.set i x) (us.set i u)
  | _, _, _, .nil => .nil
  | _, _, 0, .cons _ t => .cons r t
  | _, _, i + 1, .cons q t => .cons q (Vals.set r i t)
theorem Vals.append : ∀ {xs ys : List V} {us ws : List Value}, Vals xs us → Vals ys ws → Vals (xs ++ ys) (us ++ ws)
  | _, _, _, _, .nil, s => s
  | _, _, _, _, .cons r t, s => .cons r (Vals.append t s)
theorem Vals.take : ∀ {xs : List V} {us : List Value} (n : Nat), Vals xs us → Vals (xs.take n) (us.take n)
  | _, _, 0, _ => .nil
  | _, _, _ + 1, .nil => .nil
  | _, _, n + 1, .cons r t => .cons r (Vals.take n t)
theorem Vals.drop : ∀ {xs : List V} {us : List Value} (n : Nat), Vals xs us → Vals (xs.drop n) (us.drop n)
  | _, _, 0, r => r
  | _, _, _ + 1, .nil => .nil
  | _, _, n + 1, .cons _ t => Vals.drop n t
def RelO : Option V → Option Value → Prop
  | some v, some u => RelV v u
  | none, none => True
  | _, _ => False
def KV {κ : Type} : List (κ × V) → List (κ × Value) → Prop := Paired fun (p : κ × V) (q : κ × Value) => p.1 = q.1 ∧ RelV p.2 q.2
def kV : Key → V
  | .inl i => .int i
  | .inr x => .str x
def tkV : TKey → V
  | .inl x => .str x
  | .inr b => .bl b
inductive HO where
  | lst (xs : List V)
  | tup (xs : List V)
  | dK (kvs : List (Key × V)) | dT (kvs : List (List TKey × V))
  | set (S : Int → Bool) (n : Nat)
  | ins (C dx : Addr) (fs : List (Str × V))
  | own (x : Addr)
  | xd (fs : List (Str × V))
  | met (f x : Addr)
  | rng (lo hi : Int)
  | frz (o : Obj) (u : HO)
  | tbl (ps : Array Value)
  | ext (φ : Heap → Prop)
abbrev Hp := Addr → Option HO
def upd (H : Hp) (a : Addr) (o : HO) : Hp := fun b => if b = a then some o else H b
theorem upd_same {H : Hp} {a : Addr} {o : HO} : upd H a o a = some o := by unfold upd; rw [if_pos rfl]
theorem upd_ne {H : Hp} {a b : Addr} {o : HO} (h : b ≠ a) : upd H a o b = H b := by unfold upd; rw [if_neg h]
theorem ne_of_none {H : Hp} {a b : Addr} {o : HO} (h : H a = some o) (h' : H b = none) : a ≠ b := by
  intro e; subst e; rw [h] at h'; cases h'
section
variable (P : Program) (w : World)
def ObjOk (H : Hp) (h : Heap) (a : Addr) : HO → Prop
  | .lst xs => xs.length ≤ sizeLine ∧ ∃ (its : List Value) (n : Nat), Vals xs its ∧ h.get? a = some { cls := .type "list", data := .seq its.toArray n }
  | .tup xs => xs.length ≤ sizeLine ∧ ∃ its : List Value, Vals xs its ∧ IsTup h a its.toArray
  | .dK kvs => kvs.length ≤ sizeLine ∧ (a == sysModules) = false ∧ ∃ vs, KV kvs vs ∧ h.DictOf (mixKind P w) a vs
  | .dT kvs => kvs.length ≤ sizeLine ∧ (a == sysModules) = false ∧ ∃ xs : List (List TKey × Addr × Value),
      Paired (fun (p : List TKey × V) (q : List TKey × Addr × Value) => p.1 = q.1 ∧ H q.2.1 = some (.tup (p.1.map tkV)) ∧ RelV p.2 q.2.2) kvs xs ∧
      ∃ o es ep, h.get? a = some o ∧ o.ExactDict ∧ o.data = .dict es ep ∧ es.toList = xs.map (entryOfKey (tupleKind (tkKind P w))) ∧ (xs.map (·.1)).Nodup
  | .set S n => h.SetOf (intKind P w) a S n
  | .ins C dx fs => H dx = some (.own a) ∧ fs.length ≤ 1000 ∧ dx ≠ a ∧ h.get? a = some (PySem.W.instObj C dx) ∧
      ∃ mA, h.Ns1 dx mA ∧ (∀ f, RelO (fs.lookup f) (mA f)) ∧ PySem.Within mA (fs.map (·.1))
  | .own _ => ∃ o, h.get? a = some o
  | .xd fs => ∃ mA, h.Ns1 a mA ∧ ∀ f, RelO (fs.lookup f) (mA f)
  | .rng lo hi => ∃ t u v, h.get? a = some { cls := .type "range", data := .fields #[.int lo t, .int hi u, .int 1 v] }
  | .frz o u => h.get? a = some o ∧ ObjOk H h a u
  | .tbl ps => h.get? a = some { cls := .none, data := .fields ps }
  | .met f x => h.get? a = some (PySem.W.methodObj (.ref f) (.ref x))
  | .ext φ => φ h ∧ (∃ o, h.get? a = some o) ∧ ∀ h1 h2 : Heap, φ h1 → (∀ o, h1.get? a = some o → h2.get? a = some o) → φ h2
def HOk (H : Hp) (h : Heap) : Prop := ∀ a o, H a = some o → ObjOk P w H h a o
end
section
variable {P : Program} {w : World} {H H' : Hp} {h h' : Heap} {a : Addr} {o : HO}
theorem ObjOk.lt (x : ObjOk P w H h a o) : a < h.objs.size := by
  cases o with
  | lst xs => obtain ⟨_, _, _, _, e⟩ := x; exact Heap.lt_size e
  | tup xs => obtain ⟨_, _, _, p⟩ := x; exact p.lt
  | dK kvs => obtain ⟨_, _, _, _, o, _, _, e, _⟩ := x; exact Heap.lt_size e
  | dT kvs => obtain ⟨_, _, _, _, o, _, _, e, _⟩ := x; exact Heap.lt_size e
  | set S n => obtain ⟨o, _, _, _, e, _⟩ := x; exact Heap.lt_size e
  | ins C dx fs => obtain ⟨_, _, _, e, _⟩ := x; exact Heap.lt_size e
  | own y => obtain ⟨_, e⟩ := x; exact Heap.lt_size e
  | xd fs => obtain ⟨_, ⟨_, _, _, e, _⟩, _⟩ := x; exact Heap.lt_size e
  | rng lo hi => obtain ⟨_, _, _, e⟩ := x; exact Heap.lt_size e
  | frz ob u => obtain ⟨e, _⟩ := x; exact Heap.lt_size e
  | tbl ps => exact Heap.lt_size (show h.get? a = some _ from x)
  | met f y => exact Heap.lt_size (show h.get? a = some _ from x)
  | ext φ => obtain ⟨_, ⟨_, e⟩, _⟩ := x; exact Heap.lt_size e
theorem Paired.mapP {α β : Type} {F G : α → β → Prop} : ∀ {l₁ : List α} {l₂ : List β}, Paired F l₁ l₂ → (∀ a b, F a b → G a b) → Paired G l₁ l₂
  | _, _, .nil, _ => .nil
  | _, _, .cons r t, f => .cons (f _ _ r) (Paired.mapP t f)
theorem ObjOk.stay (x : ObjOk P w H h a o) (k : ∀ b u, (b = a ∨ H b = some (.own a)) → h.get? b = some u → h'.get? b = some u)
    (ho : ∀ b, H b = some (.own a) → H' b = some (.own a)) (ht : ∀ b xs, H b = some (.tup xs) → H' b = some (.tup xs)) : ObjOk P w H' h' a o := by
  induction o with
  | lst xs => obtain ⟨z, its, n, r, e⟩ := x; exact ⟨z, its, n, r, k _ _ (.inl rfl) e⟩
  | tup xs => obtain ⟨z, its, r, ob, e, c⟩ := x; exact ⟨z, its, r, ob, k _ _ (.inl rfl) e, c⟩
  | dK kvs => obtain ⟨z, y, vs, r, ob, es, ep, e, c⟩ := x; exact ⟨z, y, vs, r, ob, es, ep, k _ _ (.inl rfl) e, c⟩
  | dT kvs =>
    obtain ⟨z, y, xs, r, ob, es, ep, e, c⟩ := x
    exact ⟨z, y, xs, Paired.mapP r fun p q z => ⟨z.1, ht _ _ z.2.1, z.2.2⟩, ob, es, ep, k _ _ (.inl rfl) e, c⟩
  | set S n => obtain ⟨ob, es, ep, t, e, c⟩ := x; exact ⟨ob, es, ep, t, k _ _ (.inl rfl) e, c⟩
  | ins C dx fs =>
    obtain ⟨d, z, ne, e, mA, ⟨od, es, ep, e2, c⟩, r⟩ := x
    exact ⟨ho _ d, z, ne, k _ _ (.inl rfl) e, mA, ⟨od, es, ep, k _ _ (.inr d) e2, c⟩, r⟩
  | own y => obtain ⟨ob, e⟩ := x; exact ⟨ob, k _ _ (.inl rfl) e⟩
  | xd fs => obtain ⟨mA, ⟨od, es, ep, e, c⟩, r⟩ := x; exact ⟨mA, ⟨od, es, ep, k _ _ (.inl rfl) e, c⟩, r⟩
  | rng lo hi => obtain ⟨t, u, v, e⟩ := x; exact ⟨t, u, v, k _ _ (.inl rfl) e⟩
  | frz ob u ih => obtain ⟨e, q⟩ := x; exact ⟨k _ _ (.inl rfl) e, ih q⟩
  | tbl ps =>
    have e : h.get? a = some { cls := .none, data := .fields ps } := x
    show h'.get? a = some { cls := .none, data := .fields ps }
    exact k a _ (.inl rfl) e
  | met f y =>
    have e : h.get? a = some (PySem.W.methodObj (.ref f) (.ref y)) := x
    show h'.get? a = some (PySem.W.methodObj (.ref f) (.ref y))
    exact k a _ (.inl rfl) e
  | ext φ => obtain ⟨p, ⟨o, e⟩, st⟩ := x; exact ⟨st _ _ p fun o q => k _ _ (.inl rfl) q, ⟨o, k _ _ (.inl rfl) e⟩, st⟩
theorem HOk.lt (x : HOk P w H h) (e : H a = some o) : a < h.objs.size := (x a o e).lt
theorem HOk.fresh (x : HOk P w H h) (e : h.objs.size ≤ a) : H a = none := by
  cases q : H a with
  | none => rfl
  | some u => exact absurd (Nat.lt_of_lt_of_le (x.lt q) e) (Nat.lt_irrefl _)
theorem HOk.kept (x : HOk P w H h) (k : ∀ b u, h.get? b = some u → h'.get? b = some u) : HOk P w H h' := fun a o e =>
  (x a o e).stay (fun b u _ q => k b u q) (fun _ q => q) fun _ _ q => q
theorem HOk.laid (x : HOk P w H h) (k : ∀ b u, h.get? b = some u → h'.get? b = some u) (hp : h.objs.size ≤ a) (new : ObjOk P w (upd H a o) h' a o) : HOk P w (upd H a o) h' := fun b u e => by
  have hn := x.fresh hp
  by_cases hb : b = a
  · subst hb; rw [upd_same] at e; cases e; exact new
  · rw [upd_ne hb] at e
    exact (x b u e).stay (fun c v _ q => k c v q) (fun c q => by rw [upd_ne (ne_of_none q hn)]; exact q) fun c xs q => by rw [upd_ne (ne_of_none q hn)]; exact q
end
def Rd (H : Hp) (a : Addr) (u : HO) : Prop := H a = some u ∨ ∃ o, H a = some (.frz o u)
theorem Rd.of {H : Hp} {a : Addr} {u : HO} (h : H a = some u) : Rd H a u := .inl h
theorem Rd.ok {P : Program} {w : World} {H : Hp} {h : Heap} {a : Addr} {u : HO} (r : Rd H a u) (x : HOk P w H h) : ObjOk P w H h a u := by
  rcases r with r | ⟨o, r⟩
  · exact x a u r
  · obtain ⟨_, q⟩ := x a _ r
    exact q
def Mut : Option HO → Prop
  | some (.lst _) => True
  | some (.dK _) => True
  | some (.dT _) => True
  | some (.set _ _) => True
  | some (.ins _ _ _) => True
  | some (.ext _) => True
  | _ => False
section
variable {P : Program} {w : World} {H : Hp} {h h' : Heap} {x e : Addr} {o' : HO}
theorem HOk.write (ok : HOk P w H h) (mu : Mut (H x)) (he : e = x ∨ H e = some (.own x)) (k : ∀ b u, b ≠ e → h.get? b = some u → h'.get? b = some u) (heo : ∃ u, h'.get? e = some u)
    (new : ObjOk P w (upd H x o') h' x o') : HOk P w (upd H x o') h' := fun b u q => by
  have nown : ∀ c y, H c = some (.own y) → c ≠ x := fun c y r z => by subst z; rw [r] at mu; exact mu
  have ntup : ∀ c xs, H c = some (.tup xs) → c ≠ x := fun c xs r z => by subst z; rw [r] at mu; exact mu
  by_cases hb : b = x
  · subst hb; rw [upd_same] at q; cases q; exact new
  · rw [upd_ne hb] at q
    by_cases hbe : b = e
    · have q' : H b = some (.own x) := by
        rcases he with z | z
        · exact absurd (hbe.trans z) hb
        · rw [hbe]; exact z
      rw [q] at q'; cases q'
      obtain ⟨v, hv⟩ := heo
      exact ⟨v, by rw [hbe]; exact hv⟩
    · refine (ok b u q).stay (fun c v hc r => k c v ?_ r) (fun c r => by rw [upd_ne (nown c b r)]; exact r) fun c xs r => by rw [upd_ne (ntup c xs r)]; exact r
      rcases hc with rfl | hc
      · exact hbe
      · rintro rfl
        rcases he with z | z
        · exact nown c b hc z
        · rw [hc] at z; cases z; exact hb rfl
end
structure Un (fs ex : List Addr) (H H' : Hp) (h h' : Heap) : Prop where
  keep : ∀ b o, h.get? b = some o → H b = none → b ∉ fs → b ∉ ex → h'.get? b = some o
  slot : ∀ b o, h.get? b = some o → H b = none → b ∈ fs → b ∉ ex → ∃ sl, h'.get? b = some { o with slots := sl }
  free : ∀ b o, h.get? b = some o → H b = none → b ∉ ex → H' b = none
  there : ∀ b o, h.get? b = some o → b ∉ ex → ∃ o', h'.get? b = some o'
  tups : ∀ b xs, H b = some (.tup xs) → H' b = some (.tup xs)
  frzs : ∀ b o u, H b = some (.frz o u) → H' b = some (.frz o u)
  tbls : ∀ b ps, H b = some (.tbl ps) → ∃ more, H' b = some (.tbl (ps ++ more))
section
variable {fs fs' ex ex' : List Addr} {H H1 H2 : Hp} {h h1 h2 h' : Heap} {a x e : Addr} {o : HO}
theorem Un.any (u : Un fs ex H H1 h h1) {b : Addr} {ob : Obj} (q : h.get? b = some ob) (n : H b = none) (hx : b ∉ ex) : ∃ sl, h1.get? b = some { ob with slots := sl } := by
  by_cases hb : b ∈ fs
  · exact u.slot b ob q n hb hx
  · exact ⟨ob.slots, u.keep b ob q n hb hx⟩
theorem Un.trans (a : Un fs ex H H1 h h1) (b : Un fs ex H1 H2 h1 h2) : Un fs ex H H2 h h2 where
  keep := fun c ob q n hc hx => b.keep c ob (a.keep c ob q n hc hx) (a.free c ob q n hx) hc hx
  slot := fun c ob q n hc hx => by
    obtain ⟨sl, e1⟩ := a.slot c ob q n hc hx
    obtain ⟨sl', e2⟩ := b.slot c _ e1 (a.free c ob q n hx) hc hx
    exact ⟨sl', e2⟩
  free := fun c ob q n hx => by
    obtain ⟨o', e1⟩ := a.there c ob q hx
    exact b.free c o' e1 (a.free c ob q n hx) hx
  there := fun c ob q hx => by
    obtain ⟨o', e1⟩ := a.there c ob q hx
    exact b.there c o' e1 hx
  tups := fun c xs q => b.tups c xs (a.tups c xs q)
  frzs := fun c ob xs q => b.frzs c ob xs (a.frzs c ob xs q)
  tbls := fun c ps q => by
    obtain ⟨m1, e1⟩ := a.tbls c ps q
    obtain ⟨m2, e2⟩ := b.tbls c _ e1
    exact ⟨m1 ++ m2, by rw [e2, Array.append_assoc]⟩
theorem Un.kept (k : ∀ b u, h.get? b = some u → h'.get? b = some u) : Un fs ex H H h h' :=
  ⟨fun b ob q _ _ _ => k b ob q, fun b ob q _ _ _ => ⟨ob.slots, k b ob q⟩, fun _ _ _ n _ => n, fun b ob q _ => ⟨ob, k b ob q⟩, fun _ _ q => q, fun _ _ _ q => q, fun _ ps q => ⟨#[], by rw [q]; simp⟩⟩
theorem Un.refl : Un fs ex H H h h := Un.kept fun _ _ q => q
theorem Un.laid (k : ∀ b u, h.get? b = some u → h'.get? b = some u) (hp : h.objs.size ≤ a) (hn : H a = none) : Un fs ex H (upd H a o) h h' where
  keep := fun b u q _ _ _ => k b u q
  slot := fun b u q _ _ _ => ⟨u.slots, k b u q⟩
  free := fun b u q n _ => by rw [upd_ne (Nat.ne_of_lt (Nat.lt_of_lt_of_le (Heap.lt_size q) hp))]; exact n
  there := fun b u q _ => ⟨u, k b u q⟩
  tups := fun b xs q => by rw [upd_ne (ne_of_none q hn)]; exact q
  frzs := fun b u xs q => by rw [upd_ne (ne_of_none q hn)]; exact q
  tbls := fun b ps q => ⟨#[], by rw [upd_ne (ne_of_none q hn), q]; simp⟩
theorem Un.write (mu : Mut (H x)) (he : e = x ∨ H e = some (.own x)) (k : ∀ b u, b ≠ e → h.get? b = some u → h'.get? b = some u) (heo : ∃ u, h'.get? e = some u) : Un fs ex H (upd H x o) h h' := by
  have hx : ∀ b, H b = none → b ≠ x := fun b n z => by subst z; rw [n] at mu; exact mu
  have hb : ∀ b, H b = none → b ≠ e := fun b n z => by
    subst z
    rcases he with r | r
    · exact hx b n r
    · rw [n] at r; cases r
  have hm : ∀ b u, H b = some u → ¬ Mut (some u) → b ≠ x := fun b u q nm z => by subst z; rw [q] at mu; exact nm mu
  refine ⟨fun b u q n _ _ => k b u (hb b n) q, fun b u q n _ _ => ⟨u.slots, k b u (hb b n) q⟩, fun b u q n _ => by rw [upd_ne (hx b n)]; exact n, fun b u q _ => ?_,
    fun b xs q => by rw [upd_ne (hm b _ q fun z => z)]; exact q, fun b u xs q => by rw [upd_ne (hm b _ q fun z => z)]; exact q, fun b ps q => ⟨#[], by rw [upd_ne (hm b _ q fun z => z), q]; simp⟩⟩
  by_cases hbe : b = e
  · subst hbe; exact heo
  · exact ⟨u, k b u hbe q⟩
theorem Un.mono (u : Un fs ex H H1 h h1) (hs : ∀ b ∈ fs, b ∈ fs') (hx : ∀ b ∈ ex, b ∈ ex') : Un fs' ex' H H1 h h1 :=
  ⟨fun b ob q n hb he => u.keep b ob q n (fun z => hb (hs b z)) fun z => he (hx b z), fun _ _ q n _ he => u.any q n fun z => he (hx _ z), fun b ob q n he => u.free b ob q n fun z => he (hx b z), fun b ob q he => u.there b ob q fun z => he (hx b z), u.tups, u.frzs, u.tbls⟩
end
def trk (h : Heap) (H : Hp) : List Addr := (List.range h.objs.size).filter fun a => (H a).isSome
def hidT (h : Heap) (H : Hp) : Heap := PySem.W.hideAll h (trk h H)
theorem hidT_size (h : Heap) (H : Hp) : (hidT h H).objs.size = h.objs.size := PySem.W.hideAll_size _ _
theorem hidT_get {h : Heap} {H : Hp} {b : Addr} {o : Obj} (e : h.get? b = some o) (n : H b = none) : (hidT h H).get? b = some o :=
  PySem.W.hideAll_get _ e fun hm => by
    have q : (H b).isSome = true := (List.mem_filter.mp hm).2
    rw [n] at q; simp at q
theorem of_hidT {h : Heap} {H : Hp} {b : Addr} {o : Obj} (e : (hidT h H).get? b = some o) : h.get? b = some o ∧ H b = none := by
  have e' : h.get? b = some o := PySem.W.of_hideAll (trk h H) e
  refine ⟨e', ?_⟩
  cases q : H b with
  | none => rfl
  | some x =>
    have hm : b ∈ trk h H := List.mem_filter.mpr ⟨List.mem_range.mpr (Heap.lt_size e'), by simp [q]⟩
    have z : (hidT h H).get? b = none := PySem.W.hideAll_none (trk h H) hm
    rw [z] at e; cases e
def allNews (g h : Heap) (L : Addr) : List (Addr × Obj) := (List.range h.objs.size).filterMap fun a => if a = L ∨ (g.get? a).isSome = true then none else (h.get? a).map fun o => (a, o)
def rest (g h : Heap) (L d : Addr) : List (Addr × Obj) := (allNews g h L).filter fun p => decide (p.1 ≠ d)
end L2
namespace L2
open PySem PySem.Spec PyProof.Rows
structure Mod (K : PySem.W.Frag) (mg : Str → Option Value) (base : Heap) : Prop where
  kin : K.In base
  glob : base.Ns mainGlobals mg
  blt : ∃ mb, base.Ns builtinsNs mb ∧ ∀ x : Str, x ≠ "__name__" → mb x = bootBuiltins x
  nolimit : base.NoLimit
structure Cx where
  prog : Program
  w : World
  K : PySem.W.Frag
  mg : Str → Option Value
  base : Heap
  A : Around
  N : List Str
  s₀ : Shared
  H₀ : Hp
  env : Env
  outer : List Env
  stack : List Env
  ex : List Addr
  fn : Str → Bool
  calm : Bool
  pn : List (Addr × Obj)
  xe : Value → Shared → Prop
def frs (l : List Env) : List Addr := l.filterMap (·.frame)
abbrev Cx.fs (X : Cx) : List Addr := frs X.outer
def Vis (sc : Scope) (x : Str) : Prop := sc.names.lookup x = some .local ∨ sc.names.lookup x = some .cell ∨ sc.names.lookup x = some .free
def Loc (sc : Scope) (x : Str) : Prop := sc.names.lookup x = some .local ∨ sc.names.lookup x = some .cell
def Look (env : Env) (h : Heap) (m : Str → Option Value) (x : Str) (u : Value) : Prop :=
  (env.kindOf x = some .local ∧ m x = some u) ∨ ((env.kindOf x = some .cell ∨ env.kindOf x = some .free) ∧ ∃ c, env.cells.lookup x = some c ∧ h.IsCell c (some u))
structure Cx.Ok (X : Cx) : Prop where
  mod : Mod X.K X.mg X.base
  kind : X.env.scope.kind = .function
  glob : X.env.globals = mainGlobals
  blt : X.env.builtins = builtinsNs
  above : X.s₀.heap.objs.size ≤ X.env.locals
  inj : ∀ x y c, X.env.cells.lookup x = some c → X.env.cells.lookup y = some c → x = y
  has : ∀ x, (X.env.kindOf x = some .cell ∨ X.env.kindOf x = some .free) → ∃ c, X.env.cells.lookup x = some c
  cab : ∀ x c, X.fn x = true → X.env.cells.lookup x = some c → X.s₀.heap.objs.size ≤ c
  hd : X.calm = true → X.A.handled = none
  frames : X.A.frames = some X.stack
  stk : X.stack = X.outer ∨ (X.stack = X.env :: X.outer ∧ X.env.frame = some X.env.locals)
  exf : ∀ b ∈ X.ex, b ≠ X.env.locals ∧ ∀ x c, X.env.cells.lookup x = some c → c ≠ b
  bs : ∀ b o, X.base.get? b = some o → X.s₀.heap.get? b = some o ∧ X.H₀ b = none
  bsz : X.base.objs.size ≤ X.s₀.heap.objs.size
  noex : ∀ b o, X.base.get? b = some o → b ∉ X.ex
  exfs : ∀ b ∈ X.ex, b ∉ X.fs
  funs : X.s₀.heap.FunFrames X.base X.outer
  frf : ∀ b ∈ X.fs, X.H₀ b = none
structure Inv (X : Cx) (pins : List (Addr × Obj)) (σ : List (Option V)) (H : Hp) (s : Shared) : Prop where
  ok : X.Ok
  os : s.os = X.s₀.os
  bare : AllBare s.gens
  base : Un X.fs X.ex X.H₀ H X.s₀.heap s.heap
  loc : ∃ m, s.heap.Ns X.env.locals m ∧ ∀ (i : Nat) (x : Str) (v : V), X.N[i]? = some x → σ[i]? = some (some v) → Vis X.env.scope x → ∃ u, RelV v u ∧ Look X.env s.heap m x u
  cell : ∀ x c, X.env.cells.lookup x = some c → ∃ v, s.heap.IsCell c v
  free : H X.env.locals = none
  freeC : ∀ x c, X.env.cells.lookup x = some c → H c = none
  pin : ∀ p ∈ X.pn ++ pins, s.heap.get? p.1 = some p.2 ∧ H p.1 = none ∧ p.1 ≠ X.env.locals ∧ p.1 ∉ X.fs ∧ ∀ v, p.2.data ≠ .cell v
  hok : HOk X.prog X.w H s.heap
  len : σ.length = X.N.length
section
variable {X : Cx} {pins : List (Addr × Obj)} {σ : List (Option V)} {H H' : Hp} {s : Shared} {h' : Heap}
theorem Cx.Ok.nofr (ok : X.Ok) {b : Addr} {o : Obj} (e : X.base.get? b = some o) : b ∉ X.fs := fun hb => by
  have := (ok.funs.mem hb).1
  rw [e] at this; cases this
theorem Inv.bs (I : Inv X pins σ H s) : ∀ b o, X.base.get? b = some o → s.heap.get? b = some o ∧ H b = none := fun b o e =>
  ⟨I.base.keep b o (I.ok.bs b o e).1 (I.ok.bs b o e).2 (I.ok.nofr e) (I.ok.noex b o e), I.base.free b o (I.ok.bs b o e).1 (I.ok.bs b o e).2 (I.ok.noex b o e)⟩
theorem Inv.bk (I : Inv X pins σ H s) : ∀ b o, X.base.get? b = some o → s.heap.get? b = some o := fun b o e => (I.bs b o e).1
theorem Inv.mod (I : Inv X pins σ H s) : Mod X.K X.mg X.base := I.ok.mod
theorem Inv.kIn (I : Inv X pins σ H s) : X.K.In s.heap := I.ok.mod.kin.keeps I.bk
theorem Inv.nolimit (I : Inv X pins σ H s) : s.heap.NoLimit := I.ok.mod.nolimit.keeps I.bk
theorem Inv.fr (I : Inv X pins σ H s) : ∃ m, Fr X.base X.env.locals s.heap m :=
  let ⟨m, hn, _⟩ := I.loc
  ⟨m, hn, I.bk, Nat.le_trans I.ok.bsz I.ok.above⟩
theorem Inv.lt (I : Inv X pins σ H s) : X.env.locals < s.heap.objs.size := let ⟨_, hn, _⟩ := I.loc; hn.lt
theorem Inv.sz (I : Inv X pins σ H s) : X.s₀.heap.objs.size ≤ s.heap.objs.size := Nat.le_trans I.ok.above (Nat.le_of_lt I.lt)
theorem Inv.nofs (I : Inv X pins σ H s) {a : Addr} (h : s.heap.objs.size ≤ a) : a ∉ X.fs := fun hb => by
  obtain ⟨_, o, ho, _⟩ := I.ok.funs.mem hb
  exact absurd (Nat.lt_of_lt_of_le (Heap.lt_size ho) (Nat.le_trans I.sz h)) (Nat.lt_irrefl _)
theorem Inv.cne (I : Inv X pins σ H s) : ∀ x c, X.env.cells.lookup x = some c → c ≠ X.env.locals := fun x c e z => by
  obtain ⟨v, o, ho, hd⟩ := I.cell x c e
  obtain ⟨m, ⟨o', es, ep, ho', hd', _⟩, _⟩ := I.loc
  rw [z, ho'] at ho; cases ho; rw [hd'] at hd; cases hd
theorem Inv.funs (I : Inv X pins σ H s) : s.heap.FunFrames X.base X.outer := by
  have all : ∀ (l : List Env), (∀ b ∈ frs l, b ∈ X.fs) → X.s₀.heap.FunFrames X.base l → s.heap.FunFrames X.base l := by
    intro l
    induction l with
    | nil => intro _ _; trivial
    | cons env r ih =>
      intro hs hl
      obtain ⟨hk, ⟨L, o, hf, hn, ho, hd⟩, hr⟩ := hl
      have hL : L ∈ X.fs := hs L (by unfold frs; rw [List.filterMap_cons, hf]; exact List.mem_cons_self)
      obtain ⟨sl, e⟩ := I.base.slot L o ho (I.ok.frf L hL) hL fun z => I.ok.exfs L z hL
      exact ⟨hk, ⟨L, _, hf, hn, e, hd⟩, ih (fun b hb => hs b (by unfold frs; rw [List.filterMap_cons, hf]; exact List.mem_cons_of_mem _ hb)) hr⟩
  exact all X.outer (fun _ hb => hb) I.ok.funs
theorem Inv.stack (I : Inv X pins σ H s) : s.heap.FunFrames X.base X.stack := by
  rcases I.ok.stk with e | ⟨e, hf⟩
  · rw [e]; exact I.funs
  · rw [e]
    obtain ⟨m, hn, _⟩ := I.loc
    refine .cons (by rw [I.ok.kind]; decide) hf hn ?_ I.funs
    exact Heap.get?_none_of_le (Nat.le_trans I.ok.bsz I.ok.above)
theorem Inv.stkSub (I : Inv X pins σ H s) : ∀ b ∈ frs X.stack, b ∈ X.env.locals :: X.fs := fun b hb => by
  rcases I.ok.stk with e | ⟨e, hf⟩
  · rw [e] at hb; exact List.mem_cons_of_mem _ hb
  · rw [e] at hb
    unfold frs at hb
    rw [List.filterMap_cons, hf] at hb
    exact hb
theorem Inv.stkFree (I : Inv X pins σ H s) : ∀ b ∈ frs X.stack, H b = none := fun b hb => by
  rcases List.mem_cons.mp (I.stkSub b hb) with e | hb
  · rw [e]; exact I.free
  · obtain ⟨_, o, ho, _⟩ := I.ok.funs.mem hb
    exact I.base.free b o ho (I.ok.frf b hb) fun z => I.ok.exfs b z hb
theorem Inv.step {g' : Array GenState} {t' : Nat} {d' : Drawn} {ch : List Addr} (I : Inv X pins σ H s)
    (hch : ∀ b ∈ ch, (b ∈ X.ex ∨ X.s₀.heap.objs.size ≤ b) ∧ b ≠ X.env.locals ∧ (∀ x c, X.env.cells.lookup x = some c → c ≠ b) ∧ ∀ p ∈ X.pn ++ pins, p.1 ≠ b)
    (keep : ∀ b o, b ≠ X.env.locals → b ∉ X.fs → b ∉ ch → s.heap.get? b = some o → H b = none → h'.get? b = some o)
    (slot : ∀ b o, b ≠ X.env.locals → b ∈ X.fs → b ∉ ch → s.heap.get? b = some o → H b = none → ∃ sl, h'.get? b = some { o with slots := sl }) (free : ∀ b o, b ∉ ch → s.heap.get? b = some o → H b = none → H' b = none)
    (there : ∀ b o, b ∉ ch → s.heap.get? b = some o → ∃ o', h'.get? b = some o')
    (tups : ∀ b xs, H b = some (.tup xs) → H' b = some (.tup xs)) (frzs : ∀ b o u, H b = some (.frz o u) → H' b = some (.frz o u)) (tbls : ∀ b ps, H b = some (.tbl ps) → ∃ more, H' b = some (.tbl (ps ++ more)))
    (ns : ∀ m, s.heap.Ns X.env.locals m → h'.Ns X.env.locals m) (hok : HOk X.prog X.w H' h') (hg : AllBare g') :
    Inv X pins σ H' { s with heap := h', gens := g', drawn := d', toks := t' } := by
  have neL : ∀ b o, X.s₀.heap.get? b = some o → b ≠ X.env.locals := fun b o e => Nat.ne_of_lt (Nat.lt_of_lt_of_le (Heap.lt_size e) I.ok.above)
  have neC : ∀ b o, X.s₀.heap.get? b = some o → b ∉ X.ex → b ∉ ch := fun b o e hx hb => by
    rcases (hch b hb).1 with z | z
    · exact hx z
    · exact absurd (Nat.lt_of_lt_of_le (Heap.lt_size e) z) (Nat.lt_irrefl _)
  have cellK : ∀ x c, X.env.cells.lookup x = some c → ∀ v, s.heap.IsCell c v → h'.IsCell c v := fun x c e v ⟨o, ho, hd⟩ => by
    have nch : c ∉ ch := fun z => (hch c z).2.2.1 x c e rfl
    by_cases hc : c ∈ X.fs
    · obtain ⟨sl, q⟩ := slot c o (I.cne x c e) hc nch ho (I.freeC x c e)
      exact ⟨_, q, hd⟩
    · exact ⟨o, keep c o (I.cne x c e) hc nch ho (I.freeC x c e), hd⟩
  refine ⟨I.ok, I.os, hg, ⟨fun b o e n hb hx => ?_, fun b o e n hb hx => ?_, fun b o e n hx => ?_, fun b o e hx => ?_, fun b xs e => tups b xs (I.base.tups b xs e), fun b o xs e => frzs b o xs (I.base.frzs b o xs e), fun b ps e => ?_⟩, ?_, fun x c e => ?_, ?_, fun x c e => ?_, fun p hp => ?_, hok, I.len⟩
  · exact keep b o (neL b o e) hb (neC b o e hx) (I.base.keep b o e n hb hx) (I.base.free b o e n hx)
  · obtain ⟨sl, e1⟩ := I.base.slot b o e n hb hx
    obtain ⟨sl', e2⟩ := slot b _ (neL b o e) hb (neC b o e hx) e1 (I.base.free b o e n hx)
    exact ⟨sl', e2⟩
  · obtain ⟨o', e1⟩ := I.base.there b o e hx
    exact free b o' (neC b o e hx) e1 (I.base.free b o e n hx)
  · obtain ⟨o', e1⟩ := I.base.there b o e hx
    exact there b o' (neC b o e hx) e1
  · obtain ⟨m1, e1⟩ := I.base.tbls b ps e
    obtain ⟨m2, e2⟩ := tbls b _ e1
    exact ⟨m1 ++ m2, by rw [e2, Array.append_assoc]⟩
  · obtain ⟨m, hn, hl⟩ := I.loc
    refine ⟨m, ns m hn, fun i x v e1 e2 e3 => ?_⟩
    obtain ⟨u, r, l⟩ := hl i x v e1 e2 e3
    refine ⟨u, r, ?_⟩
    rcases l with l | ⟨k, c, e, z⟩
    · exact .inl l
    · exact .inr ⟨k, c, e, cellK x c e _ z⟩
  · obtain ⟨v, z⟩ := I.cell x c e
    exact ⟨v, cellK x c e v z⟩
  · obtain ⟨m, ⟨o, _, _, ho, _⟩, _⟩ := I.loc
    exact free _ o (fun z => (hch _ z).2.1 rfl) ho I.free
  · obtain ⟨v, o, ho, hd⟩ := I.cell x c e
    exact free c o (fun z => (hch c z).2.2.1 x c e rfl) ho (I.freeC x c e)
  · obtain ⟨e, n, ne, nf, d⟩ := I.pin p hp
    have nch : p.1 ∉ ch := fun z => (hch p.1 z).2.2.2 p hp rfl
    exact ⟨keep p.1 p.2 ne nf nch e n, free p.1 p.2 nch e n, ne, nf, d⟩
theorem Inv.un {t' : Nat} (I : Inv X pins σ H s) (u : Un X.fs [] H H' s.heap h') (hok : HOk X.prog X.w H' h') : Inv X pins σ H' { s with heap := h', toks := t' } := by
  obtain ⟨m, ⟨o, es, ep, ho, r⟩, _⟩ := id I.loc
  obtain ⟨sl, hL⟩ := u.any ho I.free (by simp)
  exact I.step (g' := s.gens) (d' := s.drawn) (ch := []) (fun _ z => nomatch z) (fun b o _ hb _ e n => u.keep b o e n hb (by simp)) (fun b o _ hb _ e n => u.slot b o e n hb (by simp)) (fun b o _ e n => u.free b o e n (by simp)) (fun b o _ e => u.there b o e (by simp)) u.tups u.frzs u.tbls (fun m' hm => by
    obtain ⟨o', es', ep', ho', r'⟩ := hm
    rw [ho] at ho'; cases ho'
    exact ⟨_, es', ep', hL, r'⟩) hok I.bare
theorem Inv.call {g' : Array GenState} {t' : Nat} {d' : Drawn} {ch : List Addr} (I : Inv X pins σ H s) (u : Un (frs X.stack) ch H H' s.heap h') (hok : HOk X.prog X.w H' h') (hg : AllBare g')
    (hch : ∀ b ∈ ch, (b ∈ X.ex ∨ X.s₀.heap.objs.size ≤ b) ∧ b ≠ X.env.locals ∧ (∀ x c, X.env.cells.lookup x = some c → c ≠ b) ∧ ∀ p ∈ X.pn ++ pins, p.1 ≠ b) :
    Inv X pins σ H' { s with heap := h', gens := g', drawn := d', toks := t' } := by
  obtain ⟨m, ⟨o, es, ep, ho, r⟩, _⟩ := id I.loc
  obtain ⟨sl, hL⟩ := u.any ho I.free fun z => (hch _ z).2.1 rfl
  exact I.step (ch := ch) hch (fun b o hL hb hc e n => u.keep b o e n (fun z => (List.mem_cons.mp (I.stkSub b z)).elim hL hb) hc) (fun b o _ _ hc e n => u.any e n hc) (fun b o hc e n => u.free b o e n hc) (fun b o hc e => u.there b o e hc) u.tups u.frzs u.tbls (fun m' hm => by
    obtain ⟨o', es', ep', ho', r'⟩ := hm
    rw [ho] at ho'; cases ho'
    exact ⟨_, es', ep', hL, r'⟩) hok hg
theorem Inv.turned {t' : Nat} {it : Addr} (I : Inv X pins σ H s) (k : ∀ b o, b ≠ it → s.heap.get? b = some o → h'.get? b = some o) (hn : H it = none) (hL : it ≠ X.env.locals)
    (h1 : it ∈ X.ex ∨ X.s₀.heap.objs.size ≤ it) (h2 : ∀ x c, X.env.cells.lookup x = some c → c ≠ it) (h3 : ∀ p ∈ X.pn ++ pins, p.1 ≠ it) : Inv X pins σ H { s with heap := h', toks := t' } := by
  have nit : ∀ b u, H b = some u → b ≠ it := fun b u e z => by rw [z, hn] at e; cases e
  refine I.step (g' := s.gens) (d' := s.drawn) (ch := [it]) (fun b hb => ?_) (fun b o _ _ hc e _ => k b o (fun z => hc (by simp [z])) e) (fun b o _ _ hc e _ => ⟨o.slots, k b o (fun z => hc (by simp [z])) e⟩) (fun _ _ _ _ n => n)
    (fun b o hc e => ⟨o, k b o (fun z => hc (by simp [z])) e⟩) (fun _ _ e => e) (fun _ _ _ e => e) (fun b ps e => ⟨#[], by rw [e]; simp⟩) (fun m hm => ?_) (fun b u e => ?_) I.bare
  · have e : b = it := by simpa using hb
    subst e
    exact ⟨h1, hL, h2, h3⟩
  · obtain ⟨o, es, ep, ho, r⟩ := hm
    exact ⟨o, es, ep, k _ o (Ne.symm hL) ho, r⟩
  · refine (I.hok b u e).stay (fun c v hc q => k c v ?_ q) (fun _ q => q) fun _ _ q => q
    rcases hc with z | z
    · rw [z]; exact nit b u e
    · exact nit c _ z
theorem Inv.tok (I : Inv X pins σ H s) (t : Nat) : Inv X pins σ H { s with toks := t } := I.un (h' := s.heap) (t' := t) Un.refl I.hok
theorem Inv.kept {t' : Nat} (I : Inv X pins σ H s) (k : ∀ b u, s.heap.get? b = some u → h'.get? b = some u) : Inv X pins σ H { s with heap := h', toks := t' } := I.un (Un.kept k) (I.hok.kept k)
theorem Inv.laid {a : Addr} {o : HO} {t' : Nat} (I : Inv X pins σ H s) (k : ∀ b u, s.heap.get? b = some u → h'.get? b = some u) (hp : s.heap.objs.size ≤ a) (new : ObjOk X.prog X.w (upd H a o) h' a o) :
    Inv X pins σ (upd H a o) { s with heap := h', toks := t' } := I.un (Un.laid k hp (I.hok.fresh hp)) (I.hok.laid k hp new)
theorem Inv.write {x e : Addr} {o : HO} {t' : Nat} (I : Inv X pins σ H s) (mu : Mut (H x)) (he : e = x ∨ H e = some (.own x)) (k : ∀ b u, b ≠ e → s.heap.get? b = some u → h'.get? b = some u) (heo : ∃ u, h'.get? e = some u)
    (new : ObjOk X.prog X.w (upd H x o) h' x o) : Inv X pins σ (upd H x o) { s with heap := h', toks := t' } := I.un (Un.write mu he k heo) (I.hok.write mu he k heo new)
theorem Inv.weak {σ' : List (Option V)} (I : Inv X pins σ H s) (hl : σ'.length = σ.length) (w : ∀ (i : Nat) v, σ'[i]? = some (some v) → σ[i]? = some (some v)) : Inv X pins σ' H s :=
  ⟨I.ok, I.os, I.bare, I.base, let ⟨m, hn, hl'⟩ := I.loc; ⟨m, hn, fun i x v e1 e2 e3 => hl' i x v e1 (w i v e2) e3⟩, I.cell, I.free, I.freeC, I.pin, I.hok, hl.trans I.len⟩
theorem Inv.pins_of {pins' : List (Addr × Obj)} (I : Inv X pins σ H s) (h : ∀ p ∈ pins', s.heap.get? p.1 = some p.2 ∧ H p.1 = none ∧ p.1 ≠ X.env.locals ∧ p.1 ∉ X.fs ∧ ∀ v, p.2.data ≠ .cell v) : Inv X pins' σ H s :=
  ⟨I.ok, I.os, I.bare, I.base, I.loc, I.cell, I.free, I.freeC, fun p hp => (List.mem_append.mp hp).elim (fun z => I.pin p (List.mem_append_left _ z)) (h p), I.hok, I.len⟩
theorem nodup_ix {N : List Str} (hN : N.Nodup) {i j : Nat} {x : Str} (a : N[i]? = some x) (b : N[j]? = some x) : i = j := by
  obtain ⟨h1, e1⟩ := List.getElem?_eq_some_iff.mp a
  obtain ⟨h2, e2⟩ := List.getElem?_eq_some_iff.mp b
  exact (List.getElem_inj hN).mp (e1.trans e2.symm)
theorem store_ok2 {M : Model} {A : Around} {E : Value → Shared → Prop} {i : Nat} {x : Str} {v : V} {u : Value} {Q : Unit → Shared → Prop} (I : Inv X pins σ H s) (hN : X.N.Nodup) (hi : X.N[i]? = some x) (hx : Loc X.env.scope x) (r : RelV v u)
    (h : ∀ s', Inv X pins (σ.set i (some v)) H s' → (∃ a, Heap.SameBut a s.heap s'.heap ∧ (a = X.env.locals ∨ X.env.cells.lookup x = some a)) → Q () s') (hf : X.fn x = true ∨ X.env.scope.names.lookup x = some .local := by first | exact .inl rfl | exact .inr rfl | assumption) : wpAny M A (storeName X.env x u) Q E s := by
  obtain ⟨m, hn, hl⟩ := id I.loc
  have hcls : (X.env.scope.kind == .class || (X.env.scope.kind == .module && X.env.locals != X.env.globals)) = false := by rw [I.ok.kind]; rfl
  have hiσ : i < σ.length := by rw [I.len]; exact (List.getElem?_eq_some_iff.mp hi).1
  have cne := I.cne
  have tracked : ∀ {a : Addr} {h' : Heap}, (∃ o, s.heap.get? a = some o ∧ H a = none) → Heap.SameBut a s.heap h' → HOk X.prog X.w H h' := fun {a h'} ha hs b ob e => by
    obtain ⟨_, _, hfree⟩ := ha
    refine (I.hok b ob e).stay (fun c w' hc q => (hs.2 c ?_).trans q) (fun _ q => q) fun _ _ q => q
    rintro rfl
    rcases hc with rfl | hc
    · rw [hfree] at e; cases e
    · rw [hfree] at hc; cases hc
  rcases hx with hk | hk
  · refine wpAny_storeName_local hk hn (fun h' hn' hs => ?_) hcls
    obtain ⟨oL, _, _, hoL, _⟩ := id hn
    refine h _ ⟨I.ok, I.os, I.bare, ⟨fun b o e n hb hx => ?_, fun b o e n hb hx => ?_, I.base.free, fun b o e hx => ?_, I.base.tups, I.base.frzs, I.base.tbls⟩, ⟨_, hn', fun j y v' e1 e2 e3 => ?_⟩, fun y c e => ?_, I.free, I.freeC, fun p hp => ?_, tracked ⟨oL, hoL, I.free⟩ hs, by simpa using I.len⟩ ⟨_, hs, .inl rfl⟩
    · exact (hs.2 b (Nat.ne_of_lt (Nat.lt_of_lt_of_le (Heap.lt_size e) I.ok.above))).trans (I.base.keep b o e n hb hx)
    · obtain ⟨sl, e1⟩ := I.base.slot b o e n hb hx
      exact ⟨sl, (hs.2 b (Nat.ne_of_lt (Nat.lt_of_lt_of_le (Heap.lt_size e) I.ok.above))).trans e1⟩
    · obtain ⟨o', e1⟩ := I.base.there b o e hx
      exact ⟨o', (hs.2 b (Nat.ne_of_lt (Nat.lt_of_lt_of_le (Heap.lt_size e) I.ok.above))).trans e1⟩
    · by_cases hj : j = i
      · subst hj
        rw [hi] at e1; cases e1
        rw [List.getElem?_set_self hiσ] at e2
        cases e2
        exact ⟨u, r, .inl ⟨hk, by simp⟩⟩
      · rw [List.getElem?_set_ne (Ne.symm hj)] at e2
        obtain ⟨u', r', q⟩ := hl j y v' e1 e2 e3
        refine ⟨u', r', ?_⟩
        rcases q with ⟨k, e⟩ | ⟨k, c, e, z⟩
        · refine .inl ⟨k, ?_⟩
          have : y ≠ x := fun e => hj (nodup_ix hN e1 (e ▸ hi))
          simp [this, e]
        · exact .inr ⟨k, c, e, z.sameBut hs (cne y c e)⟩
    · obtain ⟨w', z⟩ := I.cell y c e
      exact ⟨w', z.sameBut hs (cne y c e)⟩
    · obtain ⟨e, n, ne, nf, d⟩ := I.pin p hp
      exact ⟨(hs.2 p.1 ne).trans e, n, ne, nf, d⟩
  · have hfn : X.fn x = true := by
      rcases hf with z | z
      · exact z
      · rw [z] at hk; cases hk
    obtain ⟨c, hc⟩ := I.ok.has x (.inl hk)
    obtain ⟨w', z⟩ := I.cell x c hc
    refine wpAny_storeName_cell I.ok.kind hk hc z (fun h' hc' hs => ?_)
    obtain ⟨oc, hoc, hocd⟩ := id z
    refine h { s with heap := h' } ⟨I.ok, I.os, I.bare, ⟨fun b o e n hb hx => ?_, fun b o e n hb hx => ?_, I.base.free, fun b o e hx => ?_, I.base.tups, I.base.frzs, I.base.tbls⟩, ⟨m, hn.sameBut hs (Ne.symm (cne x c hc)), fun j y v' e1 e2 e3 => ?_⟩, fun y c' e => ?_, I.free, I.freeC, fun p hp => ?_, tracked ⟨oc, hoc, I.freeC x c hc⟩ hs, by simpa using I.len⟩ ⟨c, hs, .inr hc⟩
    · exact (hs.2 b (Nat.ne_of_lt (Nat.lt_of_lt_of_le (Heap.lt_size e) (I.ok.cab x c hfn hc)))).trans (I.base.keep b o e n hb hx)
    · obtain ⟨sl, e1⟩ := I.base.slot b o e n hb hx
      exact ⟨sl, (hs.2 b (Nat.ne_of_lt (Nat.lt_of_lt_of_le (Heap.lt_size e) (I.ok.cab x c hfn hc)))).trans e1⟩
    · obtain ⟨o', e1⟩ := I.base.there b o e hx
      exact ⟨o', (hs.2 b (Nat.ne_of_lt (Nat.lt_of_lt_of_le (Heap.lt_size e) (I.ok.cab x c hfn hc)))).trans e1⟩
    · by_cases hj : j = i
      · subst hj
        rw [hi] at e1; cases e1
        rw [List.getElem?_set_self hiσ] at e2
        cases e2
        exact ⟨u, r, .inr ⟨.inl hk, c, hc, hc'⟩⟩
      · rw [List.getElem?_set_ne (Ne.symm hj)] at e2
        obtain ⟨u', r', q⟩ := hl j y v' e1 e2 e3
        refine ⟨u', r', ?_⟩
        rcases q with q | ⟨k, c', e, z'⟩
        · exact .inl q
        · refine .inr ⟨k, c', e, z'.sameBut hs ?_⟩
          rintro rfl
          exact hj (nodup_ix hN e1 (I.ok.inj _ _ _ e hc ▸ hi))
    · by_cases hcc : c' = c
      · subst hcc; exact ⟨_, hc'⟩
      · obtain ⟨w2, z2⟩ := I.cell y c' e
        exact ⟨w2, z2.sameBut hs hcc⟩
    · obtain ⟨e, n, ne, nf, d⟩ := I.pin p hp
      refine ⟨(hs.2 p.1 ?_).trans e, n, ne, nf, d⟩
      intro q
      rw [q, hoc] at e
      have q' : oc = p.2 := Option.some.inj e
      exact d w' (by rw [← q']; exact hocd)
theorem store_ok {M : Model} {A : Around} {E : Value → Shared → Prop} {i : Nat} {x : Str} {v : V} {u : Value} {Q : Unit → Shared → Prop} (I : Inv X pins σ H s) (hN : X.N.Nodup) (hi : X.N[i]? = some x) (hx : Loc X.env.scope x) (r : RelV v u)
    (h : ∀ s', Inv X pins (σ.set i (some v)) H s' → Q () s') (hf : X.fn x = true ∨ X.env.scope.names.lookup x = some .local := by first | exact .inl rfl | exact .inr rfl | assumption) : wpAny M A (storeName X.env x u) Q E s :=
  store_ok2 I hN hi hx r (fun s' I' _ => h s' I') hf
theorem Inv.call' {s' : Shared} {ch : List Addr} (I : Inv X pins σ H s) (ho : s'.os = s.os) (u : Un (frs X.stack) ch H H' s.heap s'.heap) (hok : HOk X.prog X.w H' s'.heap) (hg : AllBare s'.gens)
    (hch : ∀ b ∈ ch, (b ∈ X.ex ∨ X.s₀.heap.objs.size ≤ b) ∧ b ≠ X.env.locals ∧ (∀ x c, X.env.cells.lookup x = some c → c ≠ b) ∧ ∀ p ∈ X.pn ++ pins, p.1 ≠ b) : Inv X pins σ H' s' := by
  obtain ⟨h', g', d', t', o'⟩ := s'
  have e : o' = s.os := ho
  subst e
  exact I.call (g' := g') (t' := t') (d' := d') u hok hg hch
end
abbrev XK := Value → Option Addr → Hp → Prop
abbrev St := List (Option V)
abbrev VK := V → Hp → Prop
abbrev TE := St → Hp → VK → Prop
abbrev TT := St → Hp → (Bool → Hp → Prop) → Prop
abbrev TA := St → Hp → (List V → Hp → Prop) → Prop
structure Ends where
  nx : St → Hp → Prop
  rt : VK
  bk : St → Hp → Prop := fun _ _ => False
  ct : St → Hp → Prop := fun _ _ => False
abbrev TS := Ends → St → Hp → Prop
def EP (X : Cx) (pins : List (Addr × Obj)) (σ : St) (Q : VK) (u : Value) (s' : Shared) : Prop := ∃ v H', Inv X pins σ H' s' ∧ RelV v u ∧ Q v H'
def TP (X : Cx) (pins : List (Addr × Obj)) (σ : St) (Q : Bool → Hp → Prop) (b : Bool) (s' : Shared) : Prop := ∃ H', Inv X pins σ H' s' ∧ Q b H'
def AP (X : Cx) (pins : List (Addr × Obj)) (σ : St) (Q : List V → Hp → Prop) (us : List Value) (s' : Shared) : Prop := ∃ vs H', Inv X pins σ H' s' ∧ Vals vs us ∧ Q vs H'
def SP (X : Cx) (pins : List (Addr × Obj)) (D : Ends) (f : Flow) (s' : Shared) : Prop :=
  match f with
  | .next => ∃ σ' H', Inv X pins σ' H' s' ∧ D.nx σ' H'
  | .brk => ∃ σ' H', Inv X pins σ' H' s' ∧ D.bk σ' H'
  | .cont => ∃ σ' H', Inv X pins σ' H' s' ∧ D.ct σ' H'
  | .ret u => ∃ v σ' H', Inv X pins σ' H' s' ∧ RelV v u ∧ D.rt v H'
def PE (X : Cx) (e : Expr) (t : TE) : Prop :=
  ∀ (pins : List (Addr × Obj)) (s : Shared) (σ : St) (H : Hp) (Q : VK), Inv X pins σ H s → t σ H Q → wpAny (model X.prog X.w) X.A (eval e X.env) (EP X pins σ Q) X.xe s
def PT (X : Cx) (e : Expr) (t : TT) : Prop :=
  ∀ (pins : List (Addr × Obj)) (s : Shared) (σ : St) (H : Hp) (Q : Bool → Hp → Prop), Inv X pins σ H s → t σ H Q → wpAny (model X.prog X.w) X.A (isTrue e X.env (eval e X.env)) (TP X pins σ Q) X.xe s
def PW (X : Cx) (e : Expr) (t : TT) : Prop :=
  ∀ (whole : Sem Value) (pins : List (Addr × Obj)) (s : Shared) (σ : St) (H : Hp) (Q : Bool → Hp → Prop), Inv X pins σ H s → t σ H Q → wpAny (model X.prog X.w) X.A (isTrue e X.env whole) (TP X pins σ Q) X.xe s
theorem PW.pt {X : Cx} {e : Expr} {t : TT} (h : PW X e t) : PT X e t := h _
def PA (X : Cx) (es : List Expr) (t : TA) : Prop :=
  ∀ (pos : Pos) (pins : List (Addr × Obj)) (s : Shared) (σ : St) (H : Hp) (Q : List V → Hp → Prop), Inv X pins σ H s → t σ H Q → wpAny (model X.prog X.w) X.A (spliced (backTo pos (starEach es X.env))) (AP X pins σ Q) X.xe s
def PS (X : Cx) (st : Stmt) (t : TS) : Prop :=
  ∀ (pins : List (Addr × Obj)) (s : Shared) (σ : St) (H : Hp) (D : Ends), Inv X pins σ H s → t D σ H → wpAny (model X.prog X.w) X.A (exec st X.env) (SP X pins D) X.xe s
def PSs (X : Cx) (st : List Stmt) (t : TS) : Prop :=
  ∀ (pins : List (Addr × Obj)) (s : Shared) (σ : St) (H : Hp) (D : Ends), Inv X pins σ H s → t D σ H → wpAny (model X.prog X.w) X.A (execs st X.env) (SP X pins D) X.xe s
theorem thn {α : Type} {t : Sem α} {Q Q' : α → Shared → Prop} {M : Model} {A : Around} {E : Value → Shared → Prop} {s : Shared} (h : wpAny M A t Q E s) (hQ : ∀ a s, Q a s → Q' a s) : wpAny M A t Q' E s := wpAny_mono h hQ fun _ _ x => x
end L2
namespace L2
open PySem PySem.Spec PyProof.Rows
section
variable {X : Cx}
def tVar (i : Nat) : TE := fun σ H Q => ∃ v, σ[i]? = some (some v) ∧ Q v H
def tC (v : V) : TE := fun _ H Q => Q v H
theorem pe_var {i : Nat} {x : Str} {pos : Pos} (hN : X.N[i]? = some x) (hv : Vis X.env.scope x) (hd : (x == ("__debug__" : Str)) = false := by decide) (hcd : (x == ("__classdict__" : Str)) = false := by decide) : PE X (.Name x pos) (tVar i) := by
  intro pins s σ H Q I h
  obtain ⟨v, e, h⟩ := h
  obtain ⟨m, hn, hl⟩ := I.loc
  obtain ⟨u, r, l⟩ := hl i x v hN e hv
  have fin : EP X pins σ Q u s := ⟨v, H, I, r, h⟩
  rcases l with ⟨hk, hm⟩ | ⟨hk, c, hc, hcell⟩
  · exact wpAny_Name (wpAny_loadName_local I.ok.kind hk hn hm fin) hd
  · rcases hk with hk | hk
    · exact wpAny_Name (wpAny_loadName_cell I.ok.kind hk hc hcell fin) hd
    · exact wpAny_Name (wpAny_loadName_free I.ok.kind hk hc hcell fin hcd) hd
theorem pe_int {i j pos} : PE X (.Constant (.int i) j pos) (tC (.int i)) := fun _ _ _ H _ I h => wpAny_Constant_int ⟨.int i, H, I.tok _, ⟨_, rfl⟩, h⟩
theorem pe_bl {b j pos} : PE X (.Constant (.bool b) j pos) (tC (.bl b)) := fun _ _ _ H _ I h => Constant_bool ⟨.bl b, H, I, rfl, h⟩
theorem pe_non {j pos} : PE X (.Constant .none j pos) (tC .non) := fun _ _ _ H _ I h => Constant_none ⟨.non, H, I, rfl, h⟩
theorem pe_str {x j pos} : PE X (.Constant (.str x) j pos) (tC (.str x)) := fun _ _ _ H _ I h => Calls.Constant_str ⟨.str x, H, I.tok _, ⟨_, rfl⟩, h⟩
def Gl (X : Cx) (x : Str) : Prop := X.env.kindOf x = some .globalImplicit
theorem ld_glob {E : Value → Shared → Prop} {pins : List (Addr × Obj)} {s : Shared} {σ : St} {H : Hp} {x : Str} {u : Value} {pos : Pos} {Q : Value → Shared → Prop} (I : Inv X pins σ H s) (hg : Gl X x) (hm : X.mg x = some u) (h : Q u s)
    (hd : (x == ("__debug__" : Str)) = false := by decide) : wpAny (model X.prog X.w) X.A (eval (.Name x pos) X.env) Q E s :=
  Calls.Name_function_global I.ok.kind hg (Calls.loadGlobal_global (by rw [I.ok.glob]; exact I.mod.glob.keeps I.bk) hm h) hd
theorem ld_blt {E : Value → Shared → Prop} {pins : List (Addr × Obj)} {s : Shared} {σ : St} {H : Hp} {x : Str} {u : Value} {pos : Pos} {Q : Value → Shared → Prop} (I : Inv X pins σ H s) (hg : Gl X x) (hm : X.mg x = none) (hv : bootBuiltins x = some u) (h : Q u s)
    (hn : x ≠ "__name__" := by decide) (hd : (x == ("__debug__" : Str)) = false := by decide) : wpAny (model X.prog X.w) X.A (eval (.Name x pos) X.env) Q E s := by
  obtain ⟨mb, h1, h2⟩ := I.mod.blt
  exact Calls.Name_function_global I.ok.kind hg (Calls.loadGlobal_builtin (by rw [I.ok.glob]; exact I.mod.glob.keeps I.bk) hm (by rw [I.ok.blt]; exact h1.keeps I.bk) ((h2 x hn).trans hv) h) hd
theorem pe_glob {x : Str} {v : V} {u : Value} {pos : Pos} (hg : Gl X x) (hm : X.mg x = some u) (r : RelV v u) (hd : (x == ("__debug__" : Str)) = false := by decide) : PE X (.Name x pos) (tC v) :=
  fun _ _ _ H _ I h => ld_glob I hg hm ⟨v, H, I, r, h⟩ hd
theorem pe_bltn {x : Str} {v : V} {u : Value} {pos : Pos} (hg : Gl X x) (hm : X.mg x = none) (hv : bootBuiltins x = some u) (r : RelV v u) (hn : x ≠ "__name__" := by decide) (hd : (x == ("__debug__" : Str)) = false := by decide) : PE X (.Name x pos) (tC v) :=
  fun _ _ _ H _ I h => ld_blt I hg hm hv ⟨v, H, I, r, h⟩ hn hd
def t2I (ta tb : TE) (k : Int → Int → Hp → Prop) : St → Hp → Prop := fun σ H => ta σ H fun x H1 => tb σ H1 fun y H2 => ∃ i j, x = .int i ∧ y = .int j ∧ k i j H2
def tAdd (ta tb : TE) : TE := fun σ H Q => t2I ta tb (fun i j H2 => Q (.int (i + j)) H2) σ H
def tSub (ta tb : TE) : TE := fun σ H Q => t2I ta tb (fun i j H2 => Q (.int (i - j)) H2) σ H
def tMul (ta tb : TE) : TE := fun σ H Q => t2I ta tb (fun i j H2 => (-(2 ^ 64) < i ∧ i < 2 ^ 64) ∧ Q (.int (i * j)) H2) σ H
variable {a b : Expr} {ta tb : TE} {pos : Pos}
def PC (X : Cx) (op : CmpOp) (a b : Expr) (t : TE) : Prop :=
  ∀ (pins : List (Addr × Obj)) (s : Shared) (σ : St) (H : Hp) (Q : VK), Inv X pins σ H s → t σ H Q →
    wpAny (model X.prog X.w) X.A (eval a X.env) (fun v s₁ => wpAny (model X.prog X.w) X.A (eval b X.env) (fun u s₂ => wpAny (model X.prog X.w) X.A (compareOp op v u) (EP X pins σ Q) X.xe s₂) X.xe s₁) X.xe s
def tCmp (p : Int → Int → Bool) (ta tb : TE) : TE := fun σ H Q => t2I ta tb (fun i j H2 => Q (.bl (p i j)) H2) σ H
abbrev tLt : TE → TE → TE := tCmp fun i j => decide (i < j)
abbrev tLe : TE → TE → TE := tCmp fun i j => decide (i ≤ j)
abbrev tGt : TE → TE → TE := tCmp fun i j => decide (j < i)
abbrev tGe : TE → TE → TE := tCmp fun i j => decide (j ≤ i)
abbrev tEqI : TE → TE → TE := tCmp fun i j => decide (i = j)
abbrev tNeI : TE → TE → TE := tCmp fun i j => !decide (i = j)
def tIsN (ta : TE) : TE := fun σ H Q => ta σ H fun x H1 => Q (.bl (decide (x = .non))) H1
def tNotN (ta : TE) : TE := fun σ H Q => ta σ H fun x H1 => Q (.bl (!decide (x = .non))) H1
def tB (t : TE) : TT := fun σ H Q => t σ H fun x H1 => ∃ c, x = .bl c ∧ Q c H1
theorem pt_val {e : Expr} {t : TE} (h : PE X e t) (he : ∀ whole, isTrue e X.env whole = (do let v ← whole; standAt e.pos; holding [v] (truthy v)) := by intro _; rfl) : PT X e (tB t) := by
  intro pins s σ H Q I hw
  refine isTrue_plain (thn (h pins s σ H _ I hw) fun v s1 ⟨x, H1, I1, r1, q1⟩ => ?_) (he _)
  obtain ⟨d, rfl, q⟩ := q1
  cases r1
  exact wpAny_truthy_bool ⟨H1, I1, q⟩
variable {tA tB' : TT} {rest : List Expr}
def tAnd (t u : TT) : TT := fun σ H Q => t σ H fun c H1 => if c = true then u σ H1 Q else Q false H1
def tOr (t u : TT) : TT := fun σ H Q => t σ H fun c H1 => if c = true then Q true H1 else u σ H1 Q
def tNot (t : TT) : TT := fun σ H Q => t σ H fun c H1 => Q (!c) H1
theorem pw_or1 (ha : PT X a tA) : PW X (.BoolOp .Or [a] pos) tA := by
  intro wh pins s σ H Q I h
  refine isTrue_or (thn (ha pins s σ H Q I h) fun c s1 e => ?_)
  cases c with
  | false => exact isTrue_or_nil e
  | true => exact e
theorem pw_or (ha : PT X a tA) (hb : PW X (.BoolOp .Or (b :: rest) pos) tB') : PW X (.BoolOp .Or (a :: b :: rest) pos) (tOr tA tB') := by
  intro wh pins s σ H Q I h
  refine isTrue_or (thn (ha pins s σ H _ I h) fun c s1 ⟨H1, I1, q1⟩ => ?_)
  cases c with
  | true => exact ⟨H1, I1, q1⟩
  | false => exact hb wh pins s1 σ H1 Q I1 q1
theorem pt_not (ha : PT X a tA) : PT X (.UnaryOp .Not a pos) (tNot tA) := by
  intro pins s σ H Q I h
  exact isTrue_not (ha pins s σ H (fun c H1 => Q (!c) H1) I h)
def tAndV (ta tb : TE) : TE := fun σ H Q => ta σ H fun x H1 => ∃ c, x = .bl c ∧ if c = true then tb σ H1 Q else Q (.bl false) H1
def tOrV (ta tb : TE) : TE := fun σ H Q => ta σ H fun x H1 => ∃ c, x = .bl c ∧ if c = true then Q (.bl true) H1 else tb σ H1 Q
def tNotV (ta : TE) : TE := fun σ H Q => ta σ H fun x H1 => ∃ c, x = .bl c ∧ Q (.bl (!c)) H1
theorem pe_one {op} {t : TE} (h : PE X a t) : PE X (.BoolOp op [a] pos) t := fun pins s σ H Q I hw => BoolOp_one (h pins s σ H Q I hw)
theorem pe_and (ha : PE X a ta) (hb : PE X (.BoolOp .And (b :: rest) pos) tb) : PE X (.BoolOp .And (a :: b :: rest) pos) (tAndV ta tb) := by
  intro pins s σ H Q I h
  refine BoolOp_and (thn (ha pins s σ H _ I h) fun v s1 ⟨x, H1, I1, r1, q1⟩ => ?_)
  obtain ⟨c, rfl, q1⟩ := q1
  cases r1
  refine wpAny_truthy_bool ?_
  cases c with
  | true => exact hb pins s1 σ H1 Q I1 q1
  | false => exact ⟨.bl false, H1, I1, rfl, q1⟩
theorem pe_or (ha : PE X a ta) (hb : PE X (.BoolOp .Or (b :: rest) pos) tb) : PE X (.BoolOp .Or (a :: b :: rest) pos) (tOrV ta tb) := by
  intro pins s σ H Q I h
  refine BoolOp_or (thn (ha pins s σ H _ I h) fun v s1 ⟨x, H1, I1, r1, q1⟩ => ?_)
  obtain ⟨c, rfl, q1⟩ := q1
  cases r1
  refine wpAny_truthy_bool ?_
  cases c with
  | false => exact hb pins s1 σ H1 Q I1 q1
  | true => exact ⟨.bl true, H1, I1, rfl, q1⟩
def tIf (t : TT) (ta tb : TE) : TE := fun σ H Q => t σ H fun c H1 => if c = true then ta σ H1 Q else tb σ H1 Q
theorem pe_ifExp {c : Expr} (hc : PT X c tA) (ha : PE X a ta) (hb : PE X b tb) : PE X (.IfExp c a b pos) (tIf tA ta tb) := by
  intro pins s σ H Q I h
  refine wpAny_IfExp (thn (hc pins s σ H _ I h) fun d s1 ⟨H1, I1, q1⟩ => ?_)
  cases d with
  | true => exact ha pins s1 σ H1 Q I1 q1
  | false => exact hb pins s1 σ H1 Q I1 q1
end
end L2
namespace L2
open PySem PySem.Spec PyProof.Rows
def SqL (K : PySem.W.Frag) (H : Hp) (a : Addr) (xs : List V) : Prop :=
  Rd H a (.lst xs) ∨
    ∃ (o : Obj) (its : Array Value) (n : Nat), K.lookup a = some o ∧ o.cls = .type "list" ∧ o.dict = none ∧ o.data = .seq its n ∧ its.size ≤ sizeLine ∧ Vals xs its.toList
def SqT (K : PySem.W.Frag) (H : Hp) (a : Addr) (xs : List V) : Prop :=
  Rd H a (.tup xs) ∨
    ∃ (o : Obj) (its : Array Value) (n : Nat), K.lookup a = some o ∧ o.cls = .type "tuple" ∧ o.data = .seq its n ∧ its.size ≤ sizeLine ∧ Vals xs its.toList
def absV : Value → Option V
  | .none => some .non
  | .bool b => some (.bl b)
  | .int i _ => some (.int i)
  | .str x _ => some (.str x)
  | .bytes b _ => some (.byt b)
  | .float b _ => some (.flt b)
  | .ref a => some (.ref a)
  | .type n => some (.ty n)
  | _ => none
theorem RelV.abs {x : V} {u : Value} (r : RelV x u) : absV u = some x := by
  cases x with
  | non => cases r; rfl
  | bl _ => cases r; rfl
  | int _ => obtain ⟨t, rfl⟩ := r; rfl
  | str _ => obtain ⟨t, rfl⟩ := r; rfl
  | byt _ => obtain ⟨t, rfl⟩ := r; rfl
  | flt _ => obtain ⟨t, rfl⟩ := r; rfl
  | ref _ => cases r; rfl
  | ty _ => cases r; rfl
theorem RelV.inj {x y : V} {u : Value} (r : RelV x u) (q : RelV y u) : x = y := Option.some.inj (r.abs.symm.trans q.abs)
theorem Vals.inj : ∀ {xs ys : List V} {us : List Value}, Vals xs us → Vals ys us → xs = ys
  | _, _, _, .nil, .nil => rfl
  | _, _, _, .cons r t, .cons r' t' => by rw [r.inj r', Vals.inj t t']
section
variable {X : Cx} {pins : List (Addr × Obj)} {σ : St} {H : Hp} {s : Shared} {a : Addr} {xs ys : List V}
theorem SqL.of {K : PySem.W.Frag} (h : H a = some (.lst xs)) : SqL K H a xs := .inl (.inl h)
theorem SqT.of {K : PySem.W.Frag} (h : H a = some (.tup xs)) : SqT K H a xs := .inl (.inl h)
theorem Inv.list (I : Inv X pins σ H s) (h : SqL X.K H a xs) : ∃ its : List Value, Vals xs its ∧ PlainL s.heap a its.toArray ∧ xs.length ≤ sizeLine := by
  rcases h with h | ⟨o, its, n, hk, hc, hd, hs, hz, r⟩
  · obtain ⟨z, its, n, r, e⟩ := h.ok I.hok
    exact ⟨its, r, ⟨_, n, e, rfl, rfl, rfl⟩, z⟩
  · refine ⟨its.toList, r, ⟨o, n, I.kIn a o hk, hc, hd, by simpa using hs⟩, ?_⟩
    have e := r.length
    simp only [Array.length_toList] at e
    omega
theorem Inv.tuple (I : Inv X pins σ H s) (h : SqT X.K H a xs) : ∃ its : List Value, Vals xs its ∧ IsTup s.heap a its.toArray ∧ xs.length ≤ sizeLine := by
  rcases h with h | ⟨o, its, n, hk, hc, hs, hz, r⟩
  · obtain ⟨z, its, r, p⟩ := h.ok I.hok
    exact ⟨its, r, p, z⟩
  · refine ⟨its.toList, r, ⟨o, I.kIn a o hk, hc, n, by simpa using hs⟩, ?_⟩
    have e := r.length
    simp only [Array.length_toList] at e
    omega
theorem Inv.list_inj (I : Inv X pins σ H s) (h : SqL X.K H a xs) (h' : SqL X.K H a ys) : xs = ys := by
  obtain ⟨its, r, ⟨o, n, e, _, _, d⟩, _⟩ := I.list h
  obtain ⟨its', r', ⟨o', n', e', _, _, d'⟩, _⟩ := I.list h'
  rw [e] at e'; cases e'
  rw [d] at d'
  injection d' with d1 _
  have : its = its' := by simpa using congrArg Array.toList d1
  subst this
  exact r.inj r'
theorem Inv.tuple_inj (I : Inv X pins σ H s) (h : SqT X.K H a xs) (h' : SqT X.K H a ys) : xs = ys := by
  obtain ⟨its, r, ⟨o, e, _, n, d⟩, _⟩ := I.tuple h
  obtain ⟨its', r', ⟨o', e', _, n', d'⟩, _⟩ := I.tuple h'
  rw [e] at e'; cases e'
  rw [d] at d'
  injection d' with d1 _
  have : its = its' := by simpa using congrArg Array.toList d1
  subst this
  exact r.inj r'
end
abbrev Cx.wish (X : Cx) (E : Value → Shared → Prop) : Cx := { X with xe := E }
abbrev Cx.nox (X : Cx) : Cx := X.wish fun _ _ => False
theorem Cx.Ok.wish {X : Cx} (ok : X.Ok) (E : Value → Shared → Prop) : (X.wish E).Ok :=
  ⟨ok.mod, ok.kind, ok.glob, ok.blt, ok.above, ok.inj, ok.has, ok.cab, ok.hd, ok.frames, ok.stk, ok.exf, ok.bs, ok.bsz, ok.noex, ok.exfs, ok.funs, ok.frf⟩
theorem Cx.Ok.unwish {X : Cx} {E : Value → Shared → Prop} (ok : (X.wish E).Ok) : X.Ok :=
  ⟨ok.mod, ok.kind, ok.glob, ok.blt, ok.above, ok.inj, ok.has, ok.cab, ok.hd, ok.frames, ok.stk, ok.exf, ok.bs, ok.bsz, ok.noex, ok.exfs, ok.funs, ok.frf⟩
section
variable {X : Cx} {pins : List (Addr × Obj)} {σ : St} {H : Hp} {s : Shared} {E : Value → Shared → Prop}
theorem Inv.wish (I : Inv X pins σ H s) (E : Value → Shared → Prop) : Inv (X.wish E) pins σ H s := ⟨I.ok.wish E, I.os, I.bare, I.base, I.loc, I.cell, I.free, I.freeC, I.pin, I.hok, I.len⟩
theorem Inv.unwish (I : Inv (X.wish E) pins σ H s) : Inv X pins σ H s := ⟨I.ok.unwish, I.os, I.bare, I.base, I.loc, I.cell, I.free, I.freeC, I.pin, I.hok, I.len⟩
theorem SP.unwish {D : Ends} {f : Flow} {s' : Shared} (h : SP (X.wish E) pins D f s') : SP X pins D f s' := by
  cases f with
  | next => obtain ⟨σ', H', I, q⟩ := h; exact ⟨σ', H', I.unwish, q⟩
  | brk => obtain ⟨σ', H', I, q⟩ := h; exact ⟨σ', H', I.unwish, q⟩
  | cont => obtain ⟨σ', H', I, q⟩ := h; exact ⟨σ', H', I.unwish, q⟩
  | ret u => obtain ⟨v, σ', H', I, r, q⟩ := h; exact ⟨v, σ', H', I.unwish, r, q⟩
theorem PE.nox {e : Expr} {t : TE} (h : PE X.nox e t) : PE X e t := fun pins s σ H Q I hw =>
  wpAny_mono (h pins s σ H Q (I.wish _) hw) (fun _ _ ⟨v, H', I', r, q⟩ => ⟨v, H', I'.unwish, r, q⟩) fun _ _ z => False.elim z
theorem PT.nox {e : Expr} {t : TT} (h : PT X.nox e t) : PT X e t := fun pins s σ H Q I hw =>
  wpAny_mono (h pins s σ H Q (I.wish _) hw) (fun _ _ ⟨H', I', q⟩ => ⟨H', I'.unwish, q⟩) fun _ _ z => False.elim z
theorem PSs.nox {st : List Stmt} {t : TS} (h : PSs X.nox st t) : PSs X st t := fun pins s σ H D I hw =>
  wpAny_mono (h pins s σ H D (I.wish _) hw) (fun _ _ q => q.unwish) fun _ _ z => False.elim z
end
section
variable {X : Cx} {st : Stmt} {rest : List Stmt} {t u : TS} {e : Expr} {te : TE} {pos : Pos}
def tNext : TS := fun D σ H => D.nx σ H
def tSeq (t u : TS) : TS := fun D σ H => t { D with nx := u D } σ H
theorem pss_nil : PSs X [] tNext := fun _ _ σ H _ I h => wpAny_execs_nil ⟨σ, H, I, h⟩
theorem pss_cons (h1 : PS X st t) (h2 : PSs X rest u) : PSs X (st :: rest) (tSeq t u) := by
  intro pins s σ H D I h
  refine wpAny_execs_cons (thn (h1 pins s σ H { D with nx := u D } I h) fun f s1 q => ?_)
  cases f with
  | next =>
    obtain ⟨σ', H', I', q⟩ := q
    exact h2 pins s1 σ' H' D I' q
  | ret v => exact q
  | brk => exact q
  | cont => exact q
theorem pss_one (h1 : PS X st t) : PSs X [st] t := by
  intro pins s σ H D I h
  refine wpAny_execs_cons (thn (h1 pins s σ H D I h) fun f s1 q => ?_)
  cases f with
  | next => exact wpAny_execs_nil q
  | ret v => exact q
  | brk => exact q
  | cont => exact q
def tBreak : TS := fun D σ H => D.bk σ H
def tCont : TS := fun D σ H => D.ct σ H
theorem Inv.quiet {pins : List (Addr × Obj)} {σ : St} {H : Hp} {s : Shared} (I : Inv X pins σ H s) : interactive X.env = false := by simp [interactive, I.ok.kind]
def tDrop (te : TE) : TS := fun D σ H => te σ H fun _ H1 => D.nx σ H1
theorem ps_expr (he : PE X e te) (hs : swapsWith e none pos.line X.env = pure false := by rfl) : PS X (.Expr e pos) (tDrop te) := by
  intro pins s σ H D I h
  exact wpAny_Expr_any (thn (he pins s σ H _ I h) fun v s1 ⟨x, H1, I1, r1, q1⟩ => ⟨σ, H1, I1, q1⟩) I.quiet hs
def tRet (te : TE) : TS := fun D σ H => te σ H D.rt
theorem ps_ret (he : PE X e te) : PS X (.Return (some e) pos) (tRet te) := by
  intro pins s σ H D I h
  exact wpAny_Return_some (thn (he pins s σ H _ I h) fun v s1 ⟨x, H1, I1, r1, q1⟩ => ⟨x, σ, H1, I1, r1, q1⟩)
def tRetN : TS := fun D _ H => D.rt .non H
def tIfS (c : TT) (t u : TS) : TS := fun D σ H => c σ H fun b H1 => if b = true then t D σ H1 else u D σ H1
theorem ps_if {c : Expr} {a b : List Stmt} {tc : TT} (hc : PT X c tc) (ha : PSs X a t) (hb : PSs X b u) : PS X (.If c a b pos) (tIfS tc t u) := by
  intro pins s σ H D I h
  refine wpAny_If (thn (hc pins s σ H _ I h) fun d s1 ⟨H1, I1, q1⟩ => ?_)
  cases d with
  | true => exact ha pins s1 σ H1 D I1 q1
  | false => exact hb pins s1 σ H1 D I1 q1
def tNever : TS := fun _ _ _ => False
end
abbrev TG := V → St → Hp → (St → Hp → Prop) → Prop
abbrev TGs := List V → St → Hp → (St → Hp → Prop) → Prop
def PG (X : Cx) (target : Expr) (t : TG) : Prop :=
  ∀ (pins : List (Addr × Obj)) (s : Shared) (σ : St) (H : Hp) (v : V) (u : Value) (Q : St → Hp → Prop), Inv X pins σ H s → RelV v u → t v σ H Q →
    wpAny (model X.prog X.w) X.A (assign target X.env u) (fun _ s' => ∃ σ' H', Inv X pins σ' H' s' ∧ Q σ' H') X.xe s
def PGs (X : Cx) (ts : List Expr) (t : TGs) : Prop :=
  ∀ (pins : List (Addr × Obj)) (s : Shared) (σ : St) (H : Hp) (vs : List V) (us : List Value) (Q : St → Hp → Prop), Inv X pins σ H s → Vals vs us → t vs σ H Q →
    wpAny (model X.prog X.w) X.A (assignInOrder ((assignEach ts X.env).map (·.2)) us) (fun _ s' => ∃ σ' H', Inv X pins σ' H' s' ∧ Q σ' H') X.xe s
abbrev TSet := V → V → V → Hp → (Hp → Prop) → Prop
def PSet (X : Cx) (t : TSet) : Prop :=
  ∀ (pins : List (Addr × Obj)) (s : Shared) (σ : St) (H : Hp) (o i v : V) (ov iv u : Value) (Q : Hp → Prop), Inv X pins σ H s → RelV o ov → RelV i iv → RelV v u → t o i v H Q →
    wpAny (model X.prog X.w) X.A (setItem ov iv u) (fun _ s' => ∃ H', Inv X pins σ H' s' ∧ Q H') X.xe s
abbrev TIp := V → V → Hp → VK → Prop
def PIp (X : Cx) (op : Operator) (t : TIp) : Prop :=
  ∀ (pins : List (Addr × Obj)) (s : Shared) (σ : St) (H : Hp) (x y : V) (v u : Value) (Q : VK), Inv X pins σ H s → RelV x v → RelV y u → t x y H Q →
    wpAny (model X.prog X.w) X.A (inplaceOp op v u) (EP X pins σ Q) X.xe s
section
variable {X : Cx} {pos : Pos}
def gName (i : Nat) : TG := fun v σ H Q => Q (σ.set i (some v)) H
theorem pg_name {i : Nat} {x : Str} (hN : X.N.Nodup) (hi : X.N[i]? = some x) (hx : Loc X.env.scope x) (hf : X.fn x = true ∨ X.env.scope.names.lookup x = some .local := by first | exact .inl rfl | exact .inr rfl | assumption) : PG X (.Name x pos) (gName i) := by
  intro pins s σ H v u Q I r h
  exact wpAny_assign_Name (store_ok I hN hi hx r (fun s' I' => ⟨_, H, I', h⟩) hf)
def gNil : TGs := fun vs σ H Q => vs = [] ∧ Q σ H
def gCons (t : TG) (u : TGs) : TGs := fun vs σ H Q => ∃ v r, vs = v :: r ∧ t v σ H fun σ' H' => u r σ' H' Q
theorem pgs_nil : PGs X [] gNil := by
  intro pins s σ H vs us Q I r h
  obtain ⟨e, h⟩ := h
  subst e
  cases r
  exact assignInOrder_nil ⟨σ, H, I, h⟩
theorem pgs_cons {e : Expr} {es : List Expr} {t : TG} {u : TGs} (h1 : PG X e t) (h2 : PGs X es u)
    (hs : (assignEach (e :: es) X.env).map (·.2) = assign e X.env :: (assignEach es X.env).map (·.2) := by rfl) : PGs X (e :: es) (gCons t u) := by
  intro pins s σ H vs us Q I r h
  obtain ⟨v, vr, e1, h⟩ := h
  subst e1
  cases r with
  | cons r rr =>
    rw [hs]
    refine assignInOrder_cons (thn (h1 pins s σ H _ _ _ I r h) fun _ s1 ⟨σ1, H1, I1, q1⟩ => ?_)
    exact h2 pins s1 σ1 H1 _ _ Q I1 rr q1
def gTup (K : PySem.W.Frag) (n : Nat) (t : TGs) : TG := fun v σ H Q => ∃ a xs, v = .ref a ∧ SqT K H a xs ∧ xs.length = n ∧ t xs σ H Q
theorem pg_tup {es : List Expr} {k : Nat} {t : TGs} {n : Nat} (hc : X.calm = true) (h : PGs X es t)
    (hn : (assignEach es X.env).length = n := by rfl) (hst : (assignEach es X.env).findIdx? (·.1) = none := by rfl) : PG X (.Tuple es k pos) (gTup X.K n t) := by
  intro pins s σ H v u Q I r hw
  obtain ⟨a, xs, e1, hq, hl, hw⟩ := hw
  subst e1
  cases r
  obtain ⟨its, rv, ht, hz⟩ := I.tuple hq
  refine assign_Tuple_tuple (I.ok.hd hc) ht (by simp [hn, ← hl, rv.length]) hst fun h' hx => ?_
  have I1 : Inv X pins σ H { s with heap := h' } := I.kept (t' := s.toks) fun b o e => hx b o (Nat.ne_of_lt (Heap.lt_size e)) e
  exact h pins _ σ H xs _ Q I1 (by simpa using rv) hw
def gSub (to ti : TE) (t : TSet) : TG := fun v σ H Q => to σ H fun o H1 => ti σ H1 fun i H2 => t o i v H2 fun H3 => Q σ H3
def tAsg (te : TE) (g : TG) : TS := fun D σ H => te σ H fun x H1 => g x σ H1 D.nx
theorem ps_asg {tg e : Expr} {te : TE} {g : TG} (he : PE X e te) (hg : PG X tg g) (hs : swapsWithSole [tg] e pos.line X.env = pure false := by rfl) (hw : swappedStores [tg] e X.env = pure none := by rfl)
    (h1 : (assignEach [tg] X.env).map (·.2) = [assign tg X.env] := by rfl) : PS X (.Assign [tg] e pos) (tAsg te g) := by
  intro pins s σ H D I h
  refine wpAny_Assign_stores (thn (he pins s σ H _ I h) fun v s1 ⟨x, H1, I1, r1, q1⟩ => ?_) hs hw
  rw [h1]
  exact thn (hg pins s1 σ H1 x v _ I1 r1 q1) fun _ s2 q => q
theorem ps_set {i : Nat} {x : Str} {e : Expr} {te : TE} {pos' : Pos} (hN : X.N.Nodup) (hi : X.N[i]? = some x) (hx : Loc X.env.scope x) (he : PE X e te) (hs : swapsWith e (some (.Name x pos')) pos.line X.env = pure false := by rfl) (hf : X.fn x = true ∨ X.env.scope.names.lookup x = some .local := by first | exact .inl rfl | exact .inr rfl | assumption) :
    PS X (.Assign [.Name x pos'] e pos) (tAsg te (gName i)) := by
  intro pins s σ H D I h
  refine wpAny_Assign_Name (thn (he pins s σ H _ I h) fun v s1 ⟨y, H1, I1, r1, q1⟩ => ?_) hs
  exact store_ok I1 hN hi hx r1 (fun s2 I2 => ⟨_, H1, I2, q1⟩) hf
def tPar (i j : Nat) (ta : TA) : TS := fun D σ H => ta σ H fun vs H1 => ∃ v w, vs = [v, w] ∧ D.nx ((σ.set i (some v)).set j (some w)) H1
def tAug (i : Nat) (te : TE) (ti : TIp) : TS := fun D σ H => ∃ x, σ[i]? = some (some x) ∧ te σ H fun y H1 => ti x y H1 fun z H2 => D.nx (σ.set i (some z)) H2
def tAugS (to ti te : TE) (tget : V → V → Hp → VK → Prop) (tip : TIp) (tset : TSet) : TS := fun D σ H => to σ H fun o H1 => ti σ H1 fun i H2 => tget o i H2 fun x H3 => te σ H3 fun y H4 => tip x y H4 fun z H5 => tset o i z H5 fun H6 => D.nx σ H6
def PGet (X : Cx) (t : V → V → Hp → VK → Prop) : Prop :=
  ∀ (pins : List (Addr × Obj)) (s : Shared) (σ : St) (H : Hp) (o i : V) (ov iv : Value) (Q : VK), Inv X pins σ H s → RelV o ov → RelV i iv → t o i H Q →
    wpAny (model X.prog X.w) X.A (getItem ov iv) (EP X pins σ Q) X.xe s
def ipI (f : Int → Int → Int) : TIp := fun x y H Q => ∃ i j, x = .int i ∧ y = .int j ∧ Q (.int (f i j)) H
end
section
variable {X : Cx} {pos : Pos}
def tWhile (c : TT) (tb : TS) : TS := fun D σ H => ∃ W : Nat → St → Hp → Prop, (∃ m, W m σ H) ∧ ∀ m σ H, W m σ H →
  c σ H fun b H1 => if b = true then ∃ N : St → Hp → Prop, (∀ σ' H', N σ' H' → ∃ m', m' < m ∧ W m' σ' H') ∧ tb { D with nx := N, ct := N, bk := D.nx } σ H1 else D.nx σ H1
end
structure It where
  go : Nat → Hp → Prop
  yld : Nat → Hp → V → Hp → Prop
  stop : Nat → Hp → Prop
def FpOk (X : Cx) (pins : List (Addr × Obj)) (H : Hp) (b : Addr) : Prop :=
  H b = none ∧ b ≠ X.env.locals ∧ b ∉ X.fs ∧ (b ∈ X.ex ∨ X.s₀.heap.objs.size ≤ b) ∧ (∀ x c, X.env.cells.lookup x = some c → c ≠ b) ∧ ∀ p ∈ X.pn ++ pins, p.1 ≠ b
theorem Inv.fpOk {X : Cx} {pins : List (Addr × Obj)} {σ : St} {H H' : Hp} {s : Shared} {b : Addr} (I : Inv X pins σ H s) (hb : s.heap.objs.size ≤ b) (hn : H' b = none) : FpOk X pins H' b := by
  refine ⟨hn, Nat.ne_of_gt (Nat.lt_of_lt_of_le I.lt hb), I.nofs hb, .inr (Nat.le_trans I.sz hb), fun x c e z => ?_, fun p hp z => ?_⟩
  · obtain ⟨v, q⟩ := I.cell x c e
    exact absurd (Nat.lt_of_lt_of_le q.lt (by rw [z]; exact hb)) (Nat.lt_irrefl _)
  · exact absurd (Nat.lt_of_lt_of_le (Heap.lt_size (I.pin p hp).1) (by rw [z]; exact hb)) (Nat.lt_irrefl _)
structure Turn (P : Program) (w : World) (K : PySem.W.Frag) (tg : Expr) (J : It) (fp : List Addr) (it : Addr) (tn : Nat → Heap → Prop) : Prop where
  mem : it ∈ fp
  obj : ∀ i h, tn i h → ∀ b ∈ fp, ∃ o, h.get? b = some o ∧ ∀ v, o.data ≠ .cell v
  keep : ∀ i h h', tn i h → (∀ b ∈ fp, ∀ o, h.get? b = some o → h'.get? b = some o) → tn i h'
  item : ∀ (X : Cx), X.prog = P → X.w = w → X.K = K → X.calm = true → ∀ (i : Nat) (pins : List (Addr × Obj)) (s : Shared) (σ : St) (H : Hp) (E : Value → Shared → Prop), Inv X pins σ H s → (∀ b ∈ fp, FpOk X pins H b) → tn i s.heap → J.go i H →
    wpAny (model P w) X.A (pyNext (.ref it)) (fun r s1 => ∃ u, r = some u ∧
      wpAny (model P w) X.A (letOwnedTupleGo tg (.ref it) u) (fun _ s2 => ∃ x H', Inv X pins σ H' s2 ∧ RelV x u ∧ J.yld i H x H' ∧ tn (i + 1) s2.heap ∧ ∀ b ∈ fp, H' b = none) E s1) E s
  done : ∀ (X : Cx), X.prog = P → X.w = w → X.K = K → X.calm = true → ∀ (i : Nat) (pins : List (Addr × Obj)) (s : Shared) (σ : St) (H : Hp) (E : Value → Shared → Prop), Inv X pins σ H s → (∀ b ∈ fp, FpOk X pins H b) → tn i s.heap → J.stop i H →
    wpAny (model P w) X.A (pyNext (.ref it)) (fun r s1 => r = none ∧ Inv X pins σ H s1) E s
  self : ∀ (A : Around) (i : Nat) (s : Shared) (Q : Value → Shared → Prop) (E : Value → Shared → Prop), tn i s.heap → Q (.ref it) s → wpAny (model P w) A (pyIter (.ref it)) Q E s
abbrev TI := St → Hp → (It → Hp → Prop) → Prop
def PIE (X : Cx) (pins : List (Addr × Obj)) (σ : St) (tg : Expr) (R : It → Hp → Prop) (itv : Value) (s2 : Shared) : Prop :=
  ∃ (it : Addr) (fp : List Addr) (tn : Nat → Heap → Prop) (J : It) (H' : Hp), itv = .ref it ∧ Inv X pins σ H' s2 ∧ Turn X.prog X.w X.K tg J fp it tn ∧ tn 0 s2.heap ∧ (∀ b ∈ fp, FpOk X pins H' b) ∧ R J H'
def PI (X : Cx) (tg iter : Expr) (wi : TI) : Prop :=
  ∀ (pins : List (Addr × Obj)) (s : Shared) (σ : St) (H : Hp) (R : It → Hp → Prop), Inv X pins σ H s → wi σ H R →
    wpAny (model X.prog X.w) X.A (eval iter X.env) (fun v s1 => wpAny (model X.prog X.w) X.A (pyIter v) (PIE X pins σ tg R) X.xe s1) X.xe s
theorem go_of {M : Model} {A : Around} {E : Value → Shared → Prop} {s : Shared} {tg : Expr} {it : Addr} {u : Value} {o : Obj} {n : String} {vs : Array Value} {Q : Unit → Shared → Prop} (ho : s.heap.get? it = some o) (hc : o.cls = .type n) (hd : o.data = .fields vs)
    (hn : ["enumerate", "zip", "dict_itemiterator", "dict_reverseitemiterator", "odict_iterator", "itertools.zip_longest", "itertools.pairwise"].contains n = false) (hQ : Q () s) : wpAny M A (letOwnedTupleGo tg (.ref it) u) Q E s := by
  unfold letOwnedTupleGo
  cases tg <;> first
    | exact wpAny_pure hQ
    | (cases u <;> first
        | exact wpAny_pure hQ
        | (refine wpAny_bind (wpAny_load ho ?_)
           rw [hc, hd]
           show wpAny M A (if (["enumerate", "zip", "dict_itemiterator", "dict_reverseitemiterator", "odict_iterator", "itertools.zip_longest", "itertools.pairwise"].contains n && vs[0]? == some (rawInt _)) = true then _ else _) Q E s
           rw [if_neg (by intro h; rw [hn, Bool.false_and] at h; cases h)]
           exact wpAny_pure hQ))
def Itl (K : PySem.W.Frag) (a : Addr) : It :=
  ⟨fun i H => ∃ xs x, SqL K H a xs ∧ xs[i]? = some x, fun i H x H' => H' = H ∧ ∀ xs, SqL K H a xs → xs[i]? = some x, fun i H => ∃ xs, SqL K H a xs ∧ xs.length ≤ i⟩
def Itt (K : PySem.W.Frag) (a : Addr) : It :=
  ⟨fun i H => ∃ xs x, SqT K H a xs ∧ xs[i]? = some x, fun i H x H' => H' = H ∧ ∀ xs, SqT K H a xs → xs[i]? = some x, fun i H => ∃ xs, SqT K H a xs ∧ xs.length ≤ i⟩
def Itr (lo : Int) (n : Nat) : It := ⟨fun i _ => i < n, fun i H x H' => H' = H ∧ x = .int (lo + i), fun i _ => n ≤ i⟩
theorem turn_list {P : Program} {w : World} {K : PySem.W.Frag} {tg : Expr} (a it : Addr) : Turn P w K tg (Itl K a) [it] it (fun i h => h.IsListIter it a i) where
  mem := by simp
  obj := fun i h st b hb => by
    have e : b = it := by simpa using hb
    subst e
    obtain ⟨o, e, c, d⟩ := st
    exact ⟨o, e, fun v z => by rw [d] at z; cases z⟩
  keep := fun i h h' st k => st.at fun o e => k it (by simp) o e
  item := by
    intro X hP hw hK hc i pins s σ H E I hf st hg
    subst hP hw hK
    obtain ⟨xs, x, hq, hx⟩ := hg
    obtain ⟨its, rv, p, hz⟩ := I.list hq
    obtain ⟨u, hu, ru⟩ := rv.get hx
    obtain ⟨f0, f1, f2, f3, f4, f5⟩ := hf it (by simp)
    refine wpAny_pyNext_list_item st p.isList (x := u) (by simpa using hu) fun h' st' sb => ?_
    have I1 : Inv X pins σ H { s with heap := h' } := I.turned (t' := s.toks) (fun b o hb e => (sb.2 b hb).trans e) f0 f1 f3 f4 f5
    obtain ⟨o, e, c, d⟩ := id st'
    exact ⟨u, rfl, go_of (s := { s with heap := h' }) e c d (by decide) ⟨x, H, I1, ru, ⟨rfl, fun ys hy => by rw [I.list_inj hy hq]; exact hx⟩, st', fun b hb => (hf b hb).1⟩⟩
  done := by
    intro X hP hw hK hc i pins s σ H E I hf st hg
    subst hP hw hK
    obtain ⟨xs, hq, hx⟩ := hg
    obtain ⟨its, rv, p, hz⟩ := I.list hq
    obtain ⟨f0, f1, f2, f3, f4, f5⟩ := hf it (by simp)
    have hl := rv.length
    exact wpAny_pyNext_list_end (I.ok.hd hc) st p.isList (by simp; omega) fun h' eb => ⟨rfl, I.turned (t' := s.toks) (fun b o hb e => eb b o hb e) f0 f1 f3 f4 f5⟩
  self := fun _ _ _ _ _ st h => wpAny_pyIter_listiter st h
theorem turn_tuple {P : Program} {w : World} {K : PySem.W.Frag} {tg : Expr} (a it : Addr) : Turn P w K tg (Itt K a) [it] it (fun i h => h.IsTupleIter it a i) where
  mem := by simp
  obj := fun i h st b hb => by
    have e : b = it := by simpa using hb
    subst e
    obtain ⟨o, e, c, d⟩ := st
    exact ⟨o, e, fun v z => by rw [d] at z; cases z⟩
  keep := fun i h h' st k => st.at fun o e => k it (by simp) o e
  item := by
    intro X hP hw hK hc i pins s σ H E I hf st hg
    subst hP hw hK
    obtain ⟨xs, x, hq, hx⟩ := hg
    obtain ⟨its, rv, p, hz⟩ := I.tuple hq
    obtain ⟨u, hu, ru⟩ := rv.get hx
    obtain ⟨f0, f1, f2, f3, f4, f5⟩ := hf it (by simp)
    refine wpAny_pyNext_tuple_item st (show s.heap.IsTuple a its.toArray from p) (x := u) (by simpa using hu) fun h' st' sb => ?_
    have I1 : Inv X pins σ H { s with heap := h' } := I.turned (t' := s.toks) (fun b o hb e => (sb.2 b hb).trans e) f0 f1 f3 f4 f5
    obtain ⟨o, e, c, d⟩ := id st'
    exact ⟨u, rfl, go_of (s := { s with heap := h' }) e c d (by decide) ⟨x, H, I1, ru, ⟨rfl, fun ys hy => by rw [I.tuple_inj hy hq]; exact hx⟩, st', fun b hb => (hf b hb).1⟩⟩
  done := by
    intro X hP hw hK hc i pins s σ H E I hf st hg
    subst hP hw hK
    obtain ⟨xs, hq, hx⟩ := hg
    obtain ⟨its, rv, p, hz⟩ := I.tuple hq
    obtain ⟨f0, f1, f2, f3, f4, f5⟩ := hf it (by simp)
    have hl := rv.length
    exact wpAny_pyNext_tuple_end (I.ok.hd hc) st (show s.heap.IsTuple a its.toArray from p) (by simp; omega) fun h' eb => ⟨rfl, I.turned (t' := s.toks) (fun b o hb e => eb b o hb e) f0 f1 f3 f4 f5⟩
  self := fun _ _ _ _ _ st h => wpAny_pyIter_tupleiter st h
theorem turn_range {P : Program} {w : World} {K : PySem.W.Frag} {tg : Expr} (it : Addr) (lo : Int) (n : Nat) : Turn P w K tg (Itr lo n) [it] it (fun i h => IsRangeIter h it (lo + (i : Nat) * 1) ((n : Int) - (i : Nat)) 1) where
  mem := by simp
  obj := fun i h st b hb => by
    have e : b = it := by simpa using hb
    subst e
    exact ⟨_, st, fun v z => by
      have z' : Data.fields _ = Data.cell v := z
      cases z'⟩
  keep := fun i h h' st k => k it (by simp) _ st
  item := by
    intro X hP hw hK hc i pins s σ H E I hf st hg
    subst hP hw hK
    obtain ⟨f0, f1, f2, f3, f4, f5⟩ := hf it (by simp)
    have W := Walks.range (prog := X.prog) (w := X.w) (I.ok.hd hc) it lo 1 n
    refine W.item i s _ _ hg st fun v h' tk hv st' kk => ?_
    obtain ⟨t, rfl⟩ := hv
    have I1 : Inv X pins σ H { s with heap := h', toks := tk } := I.turned (fun b o hb e => kk b o (by simpa using hb) e) f0 f1 f3 f4 f5
    refine ⟨_, rfl, go_of (s := { s with heap := h', toks := tk }) (n := "range_iterator") st' rfl rfl (by decide) ⟨.int (lo + i), H, I1, ⟨t, ?_⟩, ⟨rfl, rfl⟩, st', fun b hb => (hf b hb).1⟩⟩
    rw [Int.mul_one]
  done := by
    intro X hP hw hK hc i pins s σ H E I hf st hg
    subst hP hw hK
    obtain ⟨f0, f1, f2, f3, f4, f5⟩ := hf it (by simp)
    exact wpAny_pyNext_range_end (I.ok.hd hc) st (by have : n ≤ i := hg; omega) fun h' eb => ⟨rfl, I.turned (t' := s.toks) (fun b o hb e => eb b o hb e) f0 f1 f3 f4 f5⟩
  self := fun _ _ _ _ _ st h => wpAny_pyIter_rangeiter st h
end L2
namespace L2
open PySem PySem.Spec PyProof.Rows
section
variable {X : Cx} {tg : Expr}
def iList (K : PySem.W.Frag) (tl : TE) : TI := fun σ H R => tl σ H fun x H1 => ∃ a, x = .ref a ∧ (∃ xs, SqL K H1 a xs) ∧ R (Itl K a) H1
def iTup (K : PySem.W.Frag) (tl : TE) : TI := fun σ H R => tl σ H fun x H1 => ∃ a, x = .ref a ∧ (∃ xs, SqT K H1 a xs) ∧ R (Itt K a) H1
theorem pi_list {l : Expr} {tl : TE} (hl : PE X l tl) : PI X tg l (iList X.K tl) := by
  intro pins s σ H R I h
  refine thn (hl pins s σ H _ I h) fun v s1 ⟨x, H1, I1, r1, q1⟩ => ?_
  obtain ⟨a, e, ⟨xs, hq⟩, q⟩ := q1
  subst e
  cases r1
  obtain ⟨its, rv, p, hz⟩ := I1.list hq
  refine wpAny_pyIter_list p.isList ?_
  refine ⟨s1.heap.objs.size, [s1.heap.objs.size], _, _, H1, rfl, I1.kept (t' := s1.toks) fun b o e => Heap.get?_push_of_some _ e, turn_list a _, ⟨_, Heap.get?_push_size _ rfl, rfl, rfl⟩, fun b hb => ?_, q⟩
  have e : b = s1.heap.objs.size := by simpa using hb
  subst e
  exact I1.fpOk (Nat.le_refl _) (I1.hok.fresh (Nat.le_refl _))
theorem pi_tup {l : Expr} {tl : TE} (hl : PE X l tl) : PI X tg l (iTup X.K tl) := by
  intro pins s σ H R I h
  refine thn (hl pins s σ H _ I h) fun v s1 ⟨x, H1, I1, r1, q1⟩ => ?_
  obtain ⟨a, e, ⟨xs, hq⟩, q⟩ := q1
  subst e
  cases r1
  obtain ⟨its, rv, p, hz⟩ := I1.tuple hq
  refine wpAny_pyIter_tuple (show s1.heap.IsTuple a its.toArray from p) ?_
  refine ⟨s1.heap.objs.size, [s1.heap.objs.size], _, _, H1, rfl, I1.kept (t' := s1.toks) fun b o e => Heap.get?_push_of_some _ e, turn_tuple a _, ⟨_, Heap.get?_push_size _ rfl, rfl, rfl⟩, fun b hb => ?_, q⟩
  have e : b = s1.heap.objs.size := by simpa using hb
  subst e
  exact I1.fpOk (Nat.le_refl _) (I1.hok.fresh (Nat.le_refl _))
theorem range_it {pins : List (Addr × Obj)} {σ : St} {H : Hp} {s : Shared} {R : It → Hp → Prop} {E : Value → Shared → Prop} {lo hi : Int} {t u v : Tok} {tk : Nat} (I : Inv X pins σ H s) (h1 : -(2 ^ 62) ≤ lo) (h2 : lo < 2 ^ 62) (h3 : -(2 ^ 62) ≤ hi) (h4 : hi < 2 ^ 62)
    (q : R (Itr lo (hi - lo).toNat) H) : wpAny (model X.prog X.w) X.A (pyIter (.ref s.heap.objs.size)) (PIE X pins σ tg R) E { s with heap := s.heap.push { cls := .type "range", data := .fields #[.int lo t, .int hi u, .int 1 v] }, toks := tk } := by
  refine wpAny_pyIter_range (IsRange.new ..) (small_one h1 h2 h3 h4) ?_
  have I1 : Inv X pins σ H { s with heap := s.heap.push { cls := .type "range", data := .fields #[.int lo t, .int hi u, .int 1 v] }, toks := tk } := I.kept fun b o e => Heap.get?_push_of_some _ e
  refine ⟨(s.heap.push { cls := .type "range", data := .fields #[.int lo t, .int hi u, .int 1 v] }).objs.size, [(s.heap.push { cls := .type "range", data := .fields #[.int lo t, .int hi u, .int 1 v] }).objs.size], _, _, H, rfl,
    I1.kept (t' := tk) fun b o e => Heap.get?_push_of_some _ e, turn_range _ lo (hi - lo).toNat, ?_, fun b hb => ?_, q⟩
  · have e1 : lo + ((0 : Nat) : Int) * 1 = lo := by simp
    have e2 : (((hi - lo).toNat : Nat) : Int) - ((0 : Nat) : Int) = Builtin.Range.rangeSize lo hi 1 := by rw [rangeSize_one]; split <;> omega
    show IsRangeIter _ _ (lo + ((0 : Nat) : Int) * 1) ((((hi - lo).toNat : Nat) : Int) - ((0 : Nat) : Int)) 1
    rw [e1, e2]
    exact Heap.get?_push_size _ rfl
  · have e : b = (s.heap.push { cls := .type "range", data := .fields #[.int lo t, .int hi u, .int 1 v] }).objs.size := by simpa using hb
    subst e
    exact I1.fpOk (Nat.le_refl _) (I1.hok.fresh (Nat.le_refl _))
def iRng1 (ta : TA) : TI := fun σ H R => ta σ H fun vs H1 => ∃ j : Int, vs = [.int j] ∧ -(2 ^ 62) ≤ j ∧ j < 2 ^ 62 ∧ R (Itr 0 j.toNat) H1
def iRng2 (ta : TA) : TI := fun σ H R => ta σ H fun vs H1 => ∃ i j : Int, vs = [.int i, .int j] ∧ (-(2 ^ 62) ≤ i ∧ i < 2 ^ 62 ∧ -(2 ^ 62) ≤ j ∧ j < 2 ^ 62) ∧ R (Itr i (j - i).toNat) H1
theorem pi_range1 {a : Expr} {ta : TA} {p pos : Pos} (hg : Gl X "range") (hm : X.mg "range" = none) (ha : PA X [a] ta) (hs : starEach [a] X.env = [(false, eval a X.env)] := by rfl) : PI X tg (.Call (.Name "range" p) [a] [] pos) (iRng1 ta) := by
  intro pins s σ H R I h
  refine Call_ (ld_blt I hg hm boot_range (PyProof.Rows.callWith_type1 (thn (ha pos pins s σ H _ I h) fun us s1 ⟨vs, H1, I1, r1, q1⟩ => ?_) hs rfl))
  obtain ⟨j, e, q1, q2, q⟩ := q1
  subst e
  cases r1 with
  | cons r rr =>
    cases rr
    obtain ⟨t, rfl⟩ := r
    exact call_range_1 (range_it I1 (by omega) (by omega) q1 q2 (by simpa using q))
def tFor (wi : TI) (g : TG) (tb : TS) : TS := fun D σ H => wi σ H fun J H1 => ∃ W : Nat → Nat → St → Hp → Prop, (∃ m, W 0 m σ H1) ∧ ∀ i m σ H, W i m σ H →
  (J.stop i H ∧ D.nx σ H) ∨ (J.go i H ∧ ∃ N : St → Hp → Prop, (∀ σ' H', N σ' H' → ∃ m', m' < m ∧ W (i + 1) m' σ' H') ∧ ∀ x H', J.yld i H x H' → g x σ H' fun σ2 H2 => tb { D with nx := N, ct := N, bk := D.nx } σ2 H2)
def pinsAt (fp : List Addr) (h : Heap) : List (Addr × Obj) := fp.filterMap fun b => (h.get? b).map fun o => (b, o)
theorem mem_pinsAt {fp : List Addr} {h : Heap} {b : Addr} {o : Obj} (hb : b ∈ fp) (e : h.get? b = some o) : (b, o) ∈ pinsAt fp h := List.mem_filterMap.mpr ⟨b, hb, by rw [e]; rfl⟩
theorem of_pinsAt {fp : List Addr} {h : Heap} {p : Addr × Obj} (hp : p ∈ pinsAt fp h) : p.1 ∈ fp ∧ h.get? p.1 = some p.2 := by
  obtain ⟨b, hb, e⟩ := List.mem_filterMap.mp hp
  cases q : h.get? b with
  | none => rw [q] at e; cases e
  | some o =>
    rw [q] at e
    have e' : (b, o) = p := Option.some.inj e
    subst e'
    exact ⟨hb, q⟩
theorem Inv.pinned {pins : List (Addr × Obj)} {σ : St} {H : Hp} {s : Shared} {fp : List Addr} (I : Inv X pins σ H s) (hf : ∀ b ∈ fp, FpOk X pins H b) (ho : ∀ b ∈ fp, ∃ o, s.heap.get? b = some o ∧ ∀ v, o.data ≠ .cell v) : Inv X (pins ++ pinsAt fp s.heap) σ H s :=
  I.pins_of fun p hp => (List.mem_append.mp hp).elim (fun z => I.pin p (List.mem_append_right _ z)) fun z => by
    obtain ⟨hb, e⟩ := of_pinsAt z
    obtain ⟨f0, f1, f2, _⟩ := hf p.1 hb
    obtain ⟨o, e', d⟩ := ho p.1 hb
    rw [e] at e'; cases e'
    exact ⟨e, f0, f1, f2, d⟩
theorem Inv.unpinned {pins pl : List (Addr × Obj)} {σ : St} {H : Hp} {s : Shared} (I : Inv X (pins ++ pl) σ H s) : Inv X pins σ H s := I.pins_of fun p hp => I.pin p (List.mem_append_right _ (List.mem_append_left _ hp))
theorem ps_for {iter : Expr} {body : List Stmt} {wi : TI} {g : TG} {tb : TS} {pos : Pos} (hp : PassesOwn (model X.prog X.w) X.A X.env X.xe) (hc : X.calm = true) (hi : PI X tg iter wi) (hg : PG X tg g) (hb : PSs X body tb)
    (hs : ∀ x, foldedSetIterable iter X.env x = pure x := by intro _; rfl) : PS X (.For tg iter body [] pos) (tFor wi g tb) := by
  intro pins s σ H D I h
  refine wpAny_For (thn (hi pins s σ H _ I h) fun v s1 h1 => thn h1 fun itv s2 h2 => ?_) hs
  obtain ⟨it, fp, tn, J, H2, e, I2, T, st2, f2, W, ⟨m0, w0⟩, turn⟩ := h2
  subst e
  have stat : ∀ {H' : Hp}, (∀ b ∈ fp, H' b = none) → ∀ b ∈ fp, FpOk X pins H' b := fun hn b hb => ⟨hn b hb, (f2 b hb).2⟩
  refine codeAny_forLoop_any (fun n s' => ∃ i σ' H', Inv X pins σ' H' s' ∧ tn i s'.heap ∧ (∀ b ∈ fp, H' b = none) ∧ W i n σ' H') ?_ m0 ⟨0, σ, H2, I2, st2, fun b hb => (f2 b hb).1, w0⟩
  rintro n s3 ⟨i, σ3, H3, I3, st3, fr3, w3⟩
  rcases turn i n σ3 H3 w3 with ⟨stop, qn⟩ | ⟨go, N, hN, step⟩
  · refine wpAny_passesOwn hp (thn (T.done X rfl rfl rfl hc i pins s3 σ3 H3 X.xe I3 (stat fr3) st3 stop) fun r s4 ⟨hr, I4⟩ => ?_)
    subst hr
    exact wpAny_execs_nil ⟨σ3, H3, I4, qn⟩
  · refine wpAny_passesOwn hp (thn (T.item X rfl rfl rfl hc i pins s3 σ3 H3 X.xe I3 (stat fr3) st3 go) fun r s4 ⟨u, hr, h4⟩ => ?_)
    subst hr
    refine wpAny_passesOwn hp (thn h4 fun _ s5 ⟨x, H5, I5, r5, y5, st5, fr5⟩ => ?_)
    have I5' := I5.pinned (stat fr5) (T.obj _ _ st5)
    refine wpAny_passesOwn hp (thn (hg _ s5 σ3 H5 x u _ I5' r5 (step x H5 y5)) fun _ s6 ⟨σ6, H6, I6, q6⟩ => ?_)
    refine wpAny_passesOwn hp (thn (hb _ s6 σ6 H6 _ I6 q6) fun f s7 q7 => ?_)
    have again : ∀ {σ7 : St} {H7 : Hp}, Inv X (pins ++ pinsAt fp s5.heap) σ7 H7 s7 → N σ7 H7 → ∃ m, m < n ∧ ∃ i σ' H', Inv X pins σ' H' s7 ∧ tn i s7.heap ∧ (∀ b ∈ fp, H' b = none) ∧ W i m σ' H' := fun {σ7 H7} I7 n7 => by
      obtain ⟨m', hm, w7⟩ := hN σ7 H7 n7
      refine ⟨m', hm, i + 1, σ7, H7, I7.unpinned, T.keep _ _ _ st5 fun b hb o e => (I7.pin (b, o) (List.mem_append_right _ (List.mem_append_right _ (mem_pinsAt hb e)))).1, fun b hb => ?_, w7⟩
      obtain ⟨o, e, d⟩ := T.obj _ _ st5 b hb
      exact (I7.pin (b, o) (List.mem_append_right _ (List.mem_append_right _ (mem_pinsAt hb e)))).2.1
    cases f with
    | next => obtain ⟨σ7, H7, I7, n7⟩ := q7; exact again I7 n7
    | cont => obtain ⟨σ7, H7, I7, n7⟩ := q7; exact again I7 n7
    | brk => obtain ⟨σ7, H7, I7, q7⟩ := q7; exact ⟨σ7, H7, I7.unpinned, q7⟩
    | ret v => obtain ⟨x7, σ7, H7, I7, r7, q7⟩ := q7; exact ⟨x7, σ7, H7, I7.unpinned, r7, q7⟩
end
end L2
namespace L2
open PySem PySem.Spec PyProof.Rows
abbrev R2 := V → V → Hp → VK → Prop
def OpR (X : Cx) (f : Value → Value → Sem Value) (r : R2) : Prop :=
  ∀ (pins : List (Addr × Obj)) (s : Shared) (σ : St) (H : Hp) (x y : V) (v u : Value) (Q : VK), Inv X pins σ H s → RelV x v → RelV y u → r x y H Q →
    wpAny (model X.prog X.w) X.A (f v u) (EP X pins σ Q) X.xe s
def UnR (X : Cx) (f : Value → Sem Value) (r : V → Hp → VK → Prop) : Prop :=
  ∀ (pins : List (Addr × Obj)) (s : Shared) (σ : St) (H : Hp) (x : V) (v : Value) (Q : VK), Inv X pins σ H s → RelV x v → r x H Q →
    wpAny (model X.prog X.w) X.A (f v) (EP X pins σ Q) X.xe s
def CallR (X : Cx) (f : Value) (r : List V → Hp → VK → Prop) : Prop :=
  ∀ (pins : List (Addr × Obj)) (s : Shared) (σ : St) (H : Hp) (xs : List V) (us : List Value) (Q : VK), Inv X pins σ H s → Vals xs us → r xs H Q →
    wpAny (model X.prog X.w) X.A (call f us) (EP X pins σ Q) X.xe s
def TruR (X : Cx) (r : V → Hp → (Bool → Hp → Prop) → Prop) : Prop :=
  ∀ (pins : List (Addr × Obj)) (s : Shared) (σ : St) (H : Hp) (x : V) (v : Value) (Q : Bool → Hp → Prop), Inv X pins σ H s → RelV x v → r x H Q →
    wpAny (model X.prog X.w) X.A (truthy v) (TP X pins σ Q) X.xe s
def tOp (r : R2) (ta tb : TE) : TE := fun σ H Q => ta σ H fun x H1 => tb σ H1 fun y H2 => r x y H2 Q
def tUn (r : V → Hp → VK → Prop) (ta : TE) : TE := fun σ H Q => ta σ H fun x H1 => r x H1 Q
def rI (C : Int → Int → Prop) (g : Int → Int → V) : R2 := fun x y H Q => ∃ i j, x = .int i ∧ y = .int j ∧ C i j ∧ Q (g i j) H
def rI0 (g : Int → Int → V) : R2 := fun x y H Q => ∃ i j, x = .int i ∧ y = .int j ∧ Q (g i j) H
def rU (g : Int → V) : V → Hp → VK → Prop := fun x H Q => ∃ i, x = .int i ∧ Q (g i) H
section
variable {X : Cx} {a b c : Expr} {ta tb tc : TE} {pos : Pos}
theorem binT (ha : PE X a ta) (hb : PE X b tb) {pins : List (Addr × Obj)} {s : Shared} {σ : St} {H : Hp} {R : V → V → Hp → Prop} (I : Inv X pins σ H s)
    (h : ta σ H fun x H1 => tb σ H1 fun y H2 => R x y H2) {Q : Value → Shared → Prop} {f : Value → Value → Sem Value}
    (hf : ∀ v u s2 x y H2, Inv X pins σ H2 s2 → RelV x v → RelV y u → R x y H2 → wpAny (model X.prog X.w) X.A (f v u) Q X.xe s2) :
    wpAny (model X.prog X.w) X.A (eval a X.env) (fun v s₁ => wpAny (model X.prog X.w) X.A (eval b X.env) (fun u s₂ => wpAny (model X.prog X.w) X.A (f v u) Q X.xe s₂) X.xe s₁) X.xe s := by
  refine thn (ha pins s σ H _ I h) fun v s1 ⟨x, H1, I1, r1, q1⟩ => ?_
  refine thn (hb pins s1 σ H1 _ I1 q1) fun u s2 ⟨y, H2, I2, r2, q2⟩ => ?_
  exact hf v u s2 x y H2 I2 r1 r2 q2
theorem pe_op {op : Operator} {r : R2} (ho : OpR X (binaryOp op) r) (ha : PE X a ta) (hb : PE X b tb) : PE X (.BinOp a op b pos) (tOp r ta tb) := by
  intro pins s σ H Q I h
  exact wpAny_BinOp (binT ha hb I h fun v u s2 x y H2 I2 rx ry q => ho pins s2 σ H2 x y v u Q I2 rx ry q)
theorem pe_un {op : UnaryOp} {r : V → Hp → VK → Prop} (ho : UnR X (unaryOp op) r) (ha : PE X a ta) : PE X (.UnaryOp op a pos) (tUn r ta) := by
  intro pins s σ H Q I h
  exact UnaryOp_ (thn (ha pins s σ H _ I h) fun v s1 ⟨x, H1, I1, r1, q1⟩ => ho pins s1 σ H1 x v Q I1 r1 q1)
theorem opI {f : Value → Value → Sem Value} {C : Int → Int → Prop} {g : Int → Int → Int}
    (rule : ∀ (i j : Int) (t u : Tok) (s : Shared) (Q : Value → Shared → Prop) (E : Value → Shared → Prop), C i j → Q (.int (g i j) s.toks) { s with toks := s.toks + 1 } → wpAny (model X.prog X.w) X.A (f (.int i t) (.int j u)) Q E s) :
    OpR X f (rI C fun i j => .int (g i j)) := by
  intro pins s σ H x y v u Q I rx ry h
  obtain ⟨i, j, rfl, rfl, hc, q⟩ := h
  obtain ⟨t, rfl⟩ := rx
  obtain ⟨t', rfl⟩ := ry
  exact rule i j t t' s _ _ hc ⟨.int (g i j), H, I.tok _, ⟨_, rfl⟩, q⟩
theorem opI0 {f : Value → Value → Sem Value} {g : Int → Int → Int}
    (rule : ∀ (i j : Int) (t u : Tok) (s : Shared) (Q : Value → Shared → Prop) (E : Value → Shared → Prop), Q (.int (g i j) s.toks) { s with toks := s.toks + 1 } → wpAny (model X.prog X.w) X.A (f (.int i t) (.int j u)) Q E s) :
    OpR X f (rI0 fun i j => .int (g i j)) := by
  intro pins s σ H x y v u Q I rx ry h
  obtain ⟨i, j, rfl, rfl, q⟩ := h
  obtain ⟨t, rfl⟩ := rx
  obtain ⟨t', rfl⟩ := ry
  exact rule i j t t' s _ _ ⟨.int (g i j), H, I.tok _, ⟨_, rfl⟩, q⟩
theorem opB0 {f : Value → Value → Sem Value} {g : Int → Int → Bool}
    (rule : ∀ (i j : Int) (t u : Tok) (s : Shared) (Q : Value → Shared → Prop) (E : Value → Shared → Prop), Q (.bool (g i j)) s → wpAny (model X.prog X.w) X.A (f (.int i t) (.int j u)) Q E s) :
    OpR X f (rI0 fun i j => .bl (g i j)) := by
  intro pins s σ H x y v u Q I rx ry h
  obtain ⟨i, j, rfl, rfl, q⟩ := h
  obtain ⟨t, rfl⟩ := rx
  obtain ⟨t', rfl⟩ := ry
  exact rule i j t t' s _ _ ⟨.bl (g i j), H, I, rfl, q⟩
def CDiv (i j : Int) : Prop := 0 < j ∧ j < 1073741824
def CDivN (i j : Int) : Prop := j ≠ 0 ∧ j.natAbs < 1073741824
def CPow (i j : Int) : Prop := 0 ≤ j ∧ j ≤ 1000000 ∧ i.natAbs < 2 ^ 64
def CMul (i j : Int) : Prop := (-(2 ^ 64) < i ∧ i < 2 ^ 64) ∨ (-(2 ^ 64) < j ∧ j < 2 ^ 64)
theorem CMul.ok {i j : Int} (h : CMul i j) : IntMulOk i j := by
  rcases h with ⟨h1, h2⟩ | ⟨h1, h2⟩
  · exact .of_left (intBits_le_64 h1 h2)
  · exact .of_right (intBits_le_64 h1 h2)
theorem op_add : OpR X (binaryOp .Add) (rI0 fun i j => .int (i + j)) := opI0 fun _ _ _ _ _ _ _ q => add_int q
theorem op_sub : OpR X (binaryOp .Sub) (rI0 fun i j => .int (i - j)) := opI0 fun _ _ _ _ _ _ _ q => sub_int q
theorem op_mul : OpR X (binaryOp .Mult) (rI CMul fun i j => .int (i * j)) := opI fun _ _ _ _ _ _ _ hc q => mul_int q hc.ok
theorem op_fdiv : OpR X (binaryOp .FloorDiv) (rI CDiv fun i j => .int (i / j)) := opI fun i j _ _ _ _ _ hc q => by
  have h1 : (0 : Int) < j := hc.1
  have h2 : j < 1073741824 := hc.2
  exact floordiv_int (by omega) (by rw [Int.fdiv_eq_ediv_of_nonneg i (by omega)]; exact q) (.inl (PyProof.noPylong_small (by omega)))
theorem op_mod : OpR X (binaryOp .Mod) (rI (fun _ j => 0 < j) fun i j => .int (i % j)) := opI fun i j _ _ _ _ _ hc q => by
  have h1 : (0 : Int) < j := hc
  exact mod_int' (by omega) (by rw [Int.fmod_eq_emod_of_nonneg i (by omega)]; exact q)
theorem unI {f : Value → Sem Value} {g : Int → Int}
    (rule : ∀ (i : Int) (t : Tok) (s : Shared) (Q : Value → Shared → Prop) (E : Value → Shared → Prop), Q (.int (g i) s.toks) { s with toks := s.toks + 1 } → wpAny (model X.prog X.w) X.A (f (.int i t)) Q E s) :
    UnR X f (rU fun i => .int (g i)) := by
  intro pins s σ H x v Q I rx h
  obtain ⟨i, rfl, q⟩ := h
  obtain ⟨t, rfl⟩ := rx
  exact rule i t s _ _ ⟨.int (g i), H, I.tok _, ⟨_, rfl⟩, q⟩
theorem un_neg : UnR X (unaryOp .USub) (rU fun i => .int (-i)) := unI fun _ _ _ _ _ q => neg_int q
end
def scal : V → V → Bool
  | .non, .non => true | .non, .int _ => true | .int _, .non => true | .non, .bl _ => true | .bl _, .non => true | .non, .str _ => true | .str _, .non => true
  | .int _, .int _ => true | .bl _, .bl _ => true | .str _, .str _ => true | .byt _, .byt _ => true
  | .int _, .str _ => true | .str _, .int _ => true | .bl _, .str _ => true | .str _, .bl _ => true
  | _, _ => false
def rEq : R2 := fun x y H Q => scal x y = true ∧ Q (.bl (decide (x = y))) H
def rNe : R2 := fun x y H Q => scal x y = true ∧ Q (.bl (!decide (x = y))) H
theorem dec_int {i j : Int} : decide (V.int i = V.int j) = (i == j) := by
  rw [Bool.eq_iff_iff]
  simp
theorem dec_bl {i j : Bool} : decide (V.bl i = V.bl j) = (i == j) := by
  rw [Bool.eq_iff_iff]
  simp
theorem dec_str {i j : Str} : decide (V.str i = V.str j) = (i == j) := by
  rw [Bool.eq_iff_iff]
  simp
theorem dec_byt {i j : Array UInt8} : decide (V.byt i = V.byt j) = (i.toList == j.toList) := by
  rw [Bool.eq_iff_iff]
  cases i
  cases j
  simp
section
variable {X : Cx} {a b c : Expr} {ta tb tc : TE} {pos : Pos}
theorem fin_bl {pins : List (Addr × Obj)} {σ : St} {H : Hp} {s : Shared} {Q : VK} {k k' : Bool} (I : Inv X pins σ H s) (q : Q (.bl k) H) (e : k = k') : EP X pins σ Q (.bool k') s := by
  subst e
  exact ⟨.bl k, H, I, rfl, q⟩
theorem op_eq : OpR X (compareOp .Eq) rEq := by
  intro pins s σ H x y v u Q I rx ry h
  obtain ⟨hs, q⟩ := h
  cases x with
  | non =>
    cases rx
    cases y with
    | non => cases ry; exact PySem.EqNone.eq_none_none (fin_bl I q (by simp))
    | bl j => cases ry; exact PySem.EqNone.eq_none_bool (fin_bl I q (by simp))
    | int j => obtain ⟨t', rfl⟩ := ry; exact PySem.EqNone.eq_none_int (fin_bl I q (by simp))
    | str j => obtain ⟨t', rfl⟩ := ry; exact PySem.EqNone.eq_none_str (fin_bl I q (by simp))
    | _ => exact absurd (show false = true from hs) Bool.false_ne_true
  | bl i =>
    cases rx
    cases y with
    | non => cases ry; exact PySem.EqNone.eq_bool_none (fin_bl I q (by simp))
    | bl j => cases ry; exact eq_bool (fin_bl I q dec_bl)
    | str j => obtain ⟨t', rfl⟩ := ry; exact PySem.EqMixed.eq_bool_str (fin_bl I q (by simp))
    | _ => exact absurd (show false = true from hs) Bool.false_ne_true
  | int i =>
    obtain ⟨t, rfl⟩ := rx
    cases y with
    | non => cases ry; exact PySem.EqNone.eq_int_none (fin_bl I q (by simp))
    | int j => obtain ⟨t', rfl⟩ := ry; exact eq_int (fin_bl I q dec_int)
    | str j => obtain ⟨t', rfl⟩ := ry; exact PySem.EqMixed.eq_int_str (fin_bl I q (by simp))
    | _ => exact absurd (show false = true from hs) Bool.false_ne_true
  | str i =>
    obtain ⟨t, rfl⟩ := rx
    cases y with
    | non => cases ry; exact PySem.EqNone.eq_str_none (fin_bl I q (by simp))
    | bl j => cases ry; exact PySem.EqMixed.eq_str_bool (fin_bl I q (by simp))
    | int j => obtain ⟨t', rfl⟩ := ry; exact PySem.EqMixed.eq_str_int (fin_bl I q (by simp))
    | str j => obtain ⟨t', rfl⟩ := ry; exact eq_str (fin_bl I q dec_str)
    | _ => exact absurd (show false = true from hs) Bool.false_ne_true
  | byt i =>
    obtain ⟨t, rfl⟩ := rx
    cases y with
    | byt j => obtain ⟨t', rfl⟩ := ry; exact PySem.W.eq_bytes (fin_bl I q dec_byt)
    | _ => exact absurd (show false = true from hs) Bool.false_ne_true
  | _ => cases y <;> exact absurd (show false = true from hs) Bool.false_ne_true
theorem op_ne : OpR X (compareOp .NotEq) rNe := by
  intro pins s σ H x y v u Q I rx ry h
  obtain ⟨hs, q⟩ := h
  cases x with
  | non =>
    cases rx
    cases y with
    | non => cases ry; exact PySem.EqNone.ne_none_none (fin_bl I q (by simp))
    | bl j => cases ry; exact PySem.EqNone.ne_none_bool (fin_bl I q (by simp))
    | int j => obtain ⟨t', rfl⟩ := ry; exact PySem.EqNone.ne_none_int (fin_bl I q (by simp))
    | str j => obtain ⟨t', rfl⟩ := ry; exact PySem.EqNone.ne_none_str (fin_bl I q (by simp))
    | _ => exact absurd (show false = true from hs) Bool.false_ne_true
  | bl i =>
    cases rx
    cases y with
    | non => cases ry; exact PySem.EqNone.ne_bool_none (fin_bl I q (by simp))
    | bl j => cases ry; exact ne_bool (fin_bl I q (congrArg not dec_bl))
    | str j => obtain ⟨t', rfl⟩ := ry; exact PySem.EqMixed.ne_bool_str (fin_bl I q (by simp))
    | _ => exact absurd (show false = true from hs) Bool.false_ne_true
  | int i =>
    obtain ⟨t, rfl⟩ := rx
    cases y with
    | non => cases ry; exact PySem.EqNone.ne_int_none (fin_bl I q (by simp))
    | int j => obtain ⟨t', rfl⟩ := ry; exact ne_int (fin_bl I q (congrArg not dec_int))
    | str j => obtain ⟨t', rfl⟩ := ry; exact PySem.EqMixed.ne_int_str (fin_bl I q (by simp))
    | _ => exact absurd (show false = true from hs) Bool.false_ne_true
  | str i =>
    obtain ⟨t, rfl⟩ := rx
    cases y with
    | non => cases ry; exact PySem.EqNone.ne_str_none (fin_bl I q (by simp))
    | bl j => cases ry; exact PySem.EqMixed.ne_str_bool (fin_bl I q (by simp))
    | int j => obtain ⟨t', rfl⟩ := ry; exact PySem.EqMixed.ne_str_int (fin_bl I q (by simp))
    | str j => obtain ⟨t', rfl⟩ := ry; exact ne_str (fin_bl I q (congrArg not dec_str))
    | _ => exact absurd (show false = true from hs) Bool.false_ne_true
  | byt i =>
    obtain ⟨t, rfl⟩ := rx
    cases y with
    | byt j => obtain ⟨t', rfl⟩ := ry; exact PySem.W.ne_bytes (fin_bl I q (congrArg not dec_byt))
    | _ => exact absurd (show false = true from hs) Bool.false_ne_true
  | _ => cases y <;> exact absurd (show false = true from hs) Bool.false_ne_true
theorem op_le : OpR X (compareOp .LtE) (rI0 fun i j => .bl (decide (i ≤ j))) := opB0 fun _ _ _ _ _ _ _ q => le_int q
theorem op_gt : OpR X (compareOp .Gt) (rI0 fun i j => .bl (decide (j < i))) := opB0 fun _ _ _ _ _ _ _ q => gt_int q
theorem op_lt_str : OpR X (compareOp .Lt) (fun x y H Q => ∃ i j, x = .str i ∧ y = .str j ∧ Q (.bl (decide (i.cps.toList < j.cps.toList))) H) := by
  intro pins s σ H x y v u Q I rx ry h
  obtain ⟨i, j, rfl, rfl, q⟩ := h
  obtain ⟨t, rfl⟩ := rx
  obtain ⟨t', rfl⟩ := ry
  exact lt_str (fin_bl I q rfl)
theorem op_in_str : OpR X (compareOp .In) (fun x y H Q => ∃ i j, x = .str i ∧ y = .str j ∧ Q (.bl (!(Builtin.Str.occurrences j i 0 j.length 1).isEmpty)) H) := by
  intro pins s σ H x y v u Q I rx ry h
  obtain ⟨i, j, rfl, rfl, q⟩ := h
  obtain ⟨t, rfl⟩ := rx
  obtain ⟨t', rfl⟩ := ry
  exact in_str (fin_bl I q rfl)
def isObj : HO → Bool
  | .lst _ => true
  | .ins _ _ _ => true
  | _ => false
theorem OpR.or {f : Value → Value → Sem Value} {r r' : R2} (h : OpR X f r) (h' : OpR X f r') : OpR X f (fun x y H Q => r x y H Q ∨ r' x y H Q) := by
  intro pins s σ H x y v u Q I rx ry q
  rcases q with q | q
  · exact h pins s σ H x y v u Q I rx ry q
  · exact h' pins s σ H x y v u Q I rx ry q
theorem nomark (b : Expr) {op : CmpOp} (h : op ≠ .In := by decide) (h2 : op ≠ .NotIn := by decide) : behindInMarks op b = false := by
  have e1 : (op == CmpOp.In) = false := by cases op <;> first | rfl | exact absurd rfl h
  have e2 : (op == CmpOp.NotIn) = false := by cases op <;> first | rfl | exact absurd rfl h2
  cases b <;> simp [behindInMarks, e1, e2]
theorem pe_cmpR {op : CmpOp} {r : R2} (ho : OpR X (compareOp op) r) (ha : PE X a ta) (hb : PE X b tb) (hm : behindInMarks op b = false) : PE X (.Compare a [op] [b] pos) (tOp r ta tb) := by
  intro pins s σ H Q I h
  exact wpAny_Compare1 (binT ha hb I h fun v u s2 x y H2 I2 rx ry q => ho pins s2 σ H2 x y v u Q I2 rx ry q) hm
def tTest (t : TE) : TT := fun σ H Q => t σ H fun x H' => ∃ k, x = .bl k ∧ Q k H'
theorem pt_cmpR {op : CmpOp} {r : R2} (ho : OpR X (compareOp op) r) (ha : PE X a ta) (hb : PE X b tb) (hm : behindInMarks op b = false) : PT X (.Compare a [op] [b] pos) (tTest (tOp r ta tb)) := by
  intro pins s σ H Q I h
  refine wpAny_isTrue_Compare1 (thn (ha pins s σ H _ I h) fun v s1 ⟨x, H1, I1, r1, q1⟩ => thn (hb pins s1 σ H1 _ I1 q1) fun u s2 ⟨y, H2, I2, r2, q2⟩ =>
    thn (ho pins s2 σ H2 x y v u _ I2 r1 r2 q2) fun c s3 ⟨z, H3, I3, r3, k, e, q3⟩ => ?_) hm
  subst e
  cases r3
  exact wpAny_truthy_bool ⟨H3, I3, q3⟩
def tChain (r r' : R2) (ta tb tc : TE) : TE := fun σ H Q => ta σ H fun x H1 => tb σ H1 fun y H2 => r x y H2 fun z H3 => ∃ k, z = .bl k ∧
  (if k = true then tc σ H3 fun w' H4 => r' y w' H4 Q else Q (.bl false) H3)
theorem pe_chain {op op' : CmpOp} {r r' : R2} (ho : OpR X (compareOp op) r) (ho' : OpR X (compareOp op') r') (ha : PE X a ta) (hb : PE X b tb) (hc : PE X c tc)
    (hm : lastMarks [op, op'] [b, c] = false := by with_unfolding_all rfl) : PE X (.Compare a [op, op'] [b, c] pos) (tChain r r' ta tb tc) := by
  intro pins s σ H Q I h
  refine Compare_chain (thn (ha pins s σ H _ I h) fun v s1 ⟨x, H1, I1, r1, q1⟩ => chain_link (thn (hb pins s1 σ H1 _ I1 q1) fun u s2 ⟨y, H2, I2, r2, q2⟩ =>
    thn (ho pins s2 σ H2 x y v u _ I2 r1 r2 q2) fun d s3 ⟨z, H3, I3, r3, k, e, q3⟩ => ?_)) hm
  subst e
  cases r3
  refine wpAny_truthy_bool ?_
  cases k with
  | false => exact ite_ff ⟨.bl false, H3, I3, rfl, q3⟩
  | true => exact ite_tt (chain_last (thn (hc pins s3 σ H3 _ I3 q3) fun w' s4 ⟨z', H4, I4, r4, q4⟩ => ho' pins s4 σ H4 y z' u w' Q I4 r2 r4 q4))
theorem pt_chain {op op' : CmpOp} {r r' : R2} (ho : OpR X (compareOp op) r) (ho' : OpR X (compareOp op') r') (ha : PE X a ta) (hb : PE X b tb) (hc : PE X c tc)
    (hm : lastMarks [op, op'] [b, c] = false := by with_unfolding_all rfl) : PT X (.Compare a [op, op'] [b, c] pos) (tTest (tChain r r' ta tb tc)) := by
  intro pins s σ H Q I h
  refine isTrue_chain (thn (ha pins s σ H _ I h) fun v s1 ⟨x, H1, I1, r1, q1⟩ => test_link (thn (hb pins s1 σ H1 _ I1 q1) fun u s2 ⟨y, H2, I2, r2, q2⟩ =>
    thn (ho pins s2 σ H2 x y v u _ I2 r1 r2 q2) fun d s3 ⟨z, H3, I3, r3, k, e, q3⟩ => ?_)) hm
  subst e
  cases r3
  refine wpAny_truthy_bool ?_
  cases k with
  | false =>
    obtain ⟨k', e', q'⟩ := q3
    cases e'
    exact ite_ff ⟨H3, I3, q'⟩
  | true =>
    refine ite_tt (test_last (thn (hc pins s3 σ H3 _ I3 q3) fun w' s4 ⟨z', H4, I4, r4, q4⟩ => thn (ho' pins s4 σ H4 y z' u w' _ I4 r2 r4 q4) fun d' s5 ⟨z2, H5, I5, r5, k2, e2, q5⟩ => ?_))
    subst e2
    cases r5
    exact wpAny_truthy_bool ⟨H5, I5, q5⟩
def TruV (K : PySem.W.Frag) (x : V) (H : Hp) (k : Bool) : Prop :=
  match x with
  | .non => k = false
  | .bl b => k = b
  | .int i => k = (i != 0)
  | .str y => y.length ≤ sizeLine ∧ k = ((y.length : Int) != 0)
  | .byt y => y.size ≤ sizeLine ∧ k = ((y.size : Int) != 0)
  | .ref p => (∃ xs, SqL K H p xs ∧ k = !xs.isEmpty) ∨ (∃ xs, SqT K H p xs ∧ k = !xs.isEmpty) ∨ ∃ kvs, H p = some (.dK kvs) ∧ k = !kvs.isEmpty
  | _ => False
theorem line63 : (sizeLine : Nat) < 2 ^ 63 := by rw [sizeLine_eq]; decide
def PlainIxT (b : Expr) : Prop := ∀ o i, subscripted b false o i = operate [o, i] (getItem o i)
theorem vals1 {x : V} {us : List Value} (r : Vals [x] us) : ∃ u, us = [u] ∧ RelV x u := by
  cases r with
  | cons r1 r2 => cases r2; exact ⟨_, rfl, r1⟩
theorem vals2 {x y : V} {us : List Value} (r : Vals [x, y] us) : ∃ u w', us = [u, w'] ∧ RelV x u ∧ RelV y w' := by
  cases r with
  | cons r1 r2 =>
    cases r2 with
    | cons r3 r4 => cases r4; exact ⟨_, _, rfl, r1, r3⟩
theorem call_max2 (hc : X.calm = true) : CallR X (.builtin "max") (fun xs H Q => ∃ i j, xs = [.int i, .int j] ∧ Q (.int (if j > i then j else i)) H) := by
  intro pins s σ H xs us Q I r h
  obtain ⟨i, j, rfl, q⟩ := h
  obtain ⟨u, w', rfl, ⟨t, rfl⟩, ⟨t', rfl⟩⟩ := vals2 r
  refine max_two_ints (I.ok.hd hc) fun h' tk k => ⟨_, H, I.kept k, ?_, q⟩
  by_cases hj : j > i
  · rw [if_pos hj, if_pos hj]; exact ⟨_, rfl⟩
  · rw [if_neg hj, if_neg hj]; exact ⟨_, rfl⟩
def LenV (K : PySem.W.Frag) (x : V) (H : Hp) (n : Nat) : Prop :=
  match x with
  | .str y => y.length ≤ sizeLine ∧ n = y.length
  | .byt y => y.size ≤ sizeLine ∧ n = y.size
  | .ref p => (∃ xs, SqL K H p xs ∧ n = xs.length) ∨ ∃ xs, SqT K H p xs ∧ n = xs.length
  | _ => False
end
end L2
namespace L2
open PySem PySem.Spec PyProof.Rows
structure ObjM (h : Heap) (x dx C : Addr) (mA : Str → Option Value) : Prop where
  obj : h.get? x = some (PySem.W.instObj C dx)
  ns : h.Ns1 dx mA
  ne : dx ≠ x
theorem lookIn_ns {h : Heap} {dx : Addr} {mA : Str → Option Value} (n : h.Ns1 dx mA) : ∃ od, h.get? dx = some od ∧ ∀ name, PySem.W.lookIn name od = some (mA name) := by
  obtain ⟨o, es, ep, ho, hd, hk, _, hm⟩ := n
  refine ⟨o, ho, fun name => ?_⟩
  have e := hm name
  unfold nsFind findBy at e
  rw [← Array.find?_toList] at e
  unfold PySem.W.lookIn
  rw [hd]
  dsimp only
  split
  · rename_i y q
    rw [q] at e
    exact congrArg some e
  · rename_i q
    rw [q] at e
    have a : es.toList.any (·.refKey) = false := by
      rw [List.any_eq_false]
      intro y hy
      obtain ⟨z, t, hkey⟩ := hk y (Array.mem_toList_iff.mp hy)
      simp [DictEntry.refKey, hkey]
    have a' : ¬ es.toList.any (·.refKey) = true := by rw [a]; exact Bool.false_ne_true
    rw [if_neg a']
    exact congrArg some e
theorem ObjM.look {h : Heap} {x dx C : Addr} {mA : Str → Option Value} (I : ObjM h x dx C mA) : ∃ od, PySem.W.InstAt h x (PySem.W.instObj C dx) C (some od) ∧ ∀ name, PySem.W.lookIn name od = some (mA name) :=
  let ⟨od, ho, hl⟩ := lookIn_ns I.ns
  ⟨od, ⟨I.obj, rfl, rfl, ho⟩, hl⟩
section
variable {prog : Program} {w : World} {A : Around} {E : Value → Shared → Prop} {s : Shared} {K : PySem.W.Frag} {x dx C f : Addr} {mA : Str → Option Value} {name : Str} {v : Value}
end
def putF (f : Str) (v : V) : List (Str × V) → List (Str × V)
  | [] => [(f, v)]
  | (g, x) :: r => if g = f then (g, v) :: r else (g, x) :: putF f v r
section
variable {P : Program} {w : World} {H H' : Hp} {h h' : Heap} {a C dx : Addr} {fs fs' : List (Str × V)}
theorem ins_get (hok : HOk P w H h) (e : H a = some (.ins C dx fs)) : ∃ mA, ObjM h a dx C mA ∧ (∀ f, RelO (fs.lookup f) (mA f)) ∧ PySem.Within mA (fs.map (·.1)) ∧ fs.length ≤ 1000 ∧ H dx = some (.own a) := by
  obtain ⟨d, z, ne, ob, mA, n, r, q⟩ := (show ObjOk P w H h a (.ins C dx fs) from hok a _ e)
  exact ⟨mA, ⟨ob, n, ne⟩, r, q, z, d⟩
end
structure Cls (K : PySem.W.Frag) (C : Addr) : Prop where
  pg : PySem.W.plainGet K C Str.empty = true
  hd : PySem.W.hasDictIn K C = true
  po : PySem.W.plainOver K C = true
  sa : PySem.W.findIn K (.ref C) "__setattr__" = some (some (.builtin "object.__setattr__"))
theorem Cls.get {K : PySem.W.Frag} {C : Addr} (c : Cls K C) (f : Str) : PySem.W.plainGet K C f = true := c.pg
def NoAttr (K : PySem.W.Frag) (C : Addr) (f : Str) : Prop := PySem.W.findIn K (.ref C) f = some none
structure Con (K : PySem.W.Frag) (C : Addr) (f : Str) (v : V) (u : Value) : Prop where
  at_ : PySem.W.findIn K (.ref C) f = some (some u)
  rel : RelV v u
  get : PySem.W.specialIn K u "__get__" = some none
  cp : PySem.W.copiedNames.contains f = false
structure Meth (K : PySem.W.Frag) (C : Addr) (m : Str) (f : Addr) : Prop where
  at_ : PySem.W.findIn K (.ref C) m = some (some (.ref f))
  fn : PySem.W.isFn K (.ref f) = true
  kp : PySem.W.keepIn K (.ref f) = true
section
variable {X : Cx} {pins : List (Addr × Obj)} {σ : St} {H : Hp} {s : Shared} {a C dx : Addr} {fs : List (Str × V)} {f : Str} {v : V} {A : Around} {E : Value → Shared → Prop}
theorem Inv.made (I : Inv X pins σ H s) : Inv X pins σ (upd (upd H s.heap.objs.size (.own (s.heap.objs.size + 1))) (s.heap.objs.size + 1) (.ins C s.heap.objs.size []))
    { s with heap := (s.heap.push PySem.W.emptyDict).push (PySem.W.instObj C s.heap.objs.size) } := by
  have e1 : (s.heap.push PySem.W.emptyDict).get? s.heap.objs.size = some PySem.W.emptyDict := Heap.get?_push_size s.heap rfl
  have e2 : ((s.heap.push PySem.W.emptyDict).push (PySem.W.instObj C s.heap.objs.size)).get? (s.heap.objs.size + 1) = some (PySem.W.instObj C s.heap.objs.size) := by
    have := Heap.get?_push_size (s.heap.push PySem.W.emptyDict) (o := PySem.W.instObj C s.heap.objs.size) rfl
    rwa [Heap.size_push] at this
  have e3 : (s.heap.push PySem.W.emptyDict).Ns s.heap.objs.size (fun _ => none) := ⟨PySem.W.emptyDict, #[], _, e1, rfl, (fun e he => absurd he (by simp)), fun _ => rfl⟩
  have I1 := I.laid (a := s.heap.objs.size) (o := .own (s.heap.objs.size + 1)) (h' := s.heap.push PySem.W.emptyDict) (t' := s.toks) (fun b u q => Heap.get?_push_of_some _ q) (Nat.le_refl _) ⟨_, e1⟩
  refine I1.laid (a := s.heap.objs.size + 1) (o := .ins C s.heap.objs.size []) (t' := s.toks) (fun b u q => Heap.get?_push_of_some _ q) (Nat.le_of_eq (Heap.size_push _ _)) ?_
  have ne : s.heap.objs.size ≠ s.heap.objs.size + 1 := Nat.ne_of_lt (Nat.lt_succ_self _)
  refine ⟨by rw [upd_ne ne, upd_same], Nat.zero_le _, ne, e2, fun _ => none, (Heap.Ns1.of_empty e3).at fun o q => Heap.get?_push_of_some _ q, fun _ => True.intro, fun y hy => absurd rfl hy⟩
end
def tFld (K : PySem.W.Frag) (ta : TE) (f : Str) : TE := fun σ H Q => ta σ H fun x H1 => ∃ a C dx fs v, x = .ref a ∧ H1 a = some (.ins C dx fs) ∧ Cls K C ∧ NoAttr K C f ∧ fs.lookup f = some v ∧ Q v H1
def tCon (K : PySem.W.Frag) (ta : TE) (f : Str) : TE := fun σ H Q => ta σ H fun x H1 => ∃ a C dx fs v u, x = .ref a ∧ H1 a = some (.ins C dx fs) ∧ Cls K C ∧ Con K C f v u ∧ fs.lookup f = none ∧ Q v H1
def sFld (K : PySem.W.Frag) (ta tv : TE) (f : Str) : TS := fun D σ H => tv σ H fun y H1 => ta σ H1 fun x H2 => ∃ a C dx fs, x = .ref a ∧ H2 a = some (.ins C dx fs) ∧ Cls K C ∧ NoAttr K C f ∧ fs.length < 1000 ∧
  D.nx σ (upd H2 a (.ins C dx (putF f y fs)))
def InOp (X : Cx) (op : Operator) (rd : V → V → Hp → VK → Prop) : Prop :=
  ∀ (pins : List (Addr × Obj)) (s : Shared) (σ : St) (H : Hp) (x y : V) (u v : Value) (Q : VK), Inv X pins σ H s → RelV x u → RelV y v → rd x y H Q → wpAny (model X.prog X.w) X.A (inplaceOp op u v) (EP X pins σ Q) X.xe s
def sFldAug (K : PySem.W.Frag) (ta tv : TE) (rd : V → V → Hp → VK → Prop) (f : Str) : TS := fun D σ H => ta σ H fun x H1 => ∃ a C dx fs v, x = .ref a ∧ H1 a = some (.ins C dx fs) ∧ Cls K C ∧ NoAttr K C f ∧ fs.lookup f = some v ∧
  tv σ H1 fun y H2 => rd v y H2 fun z H3 => ∃ dx' fs', H3 a = some (.ins C dx' fs') ∧ fs'.length < 1000 ∧ D.nx σ (upd H3 a (.ins C dx' (putF f z fs')))
section
variable {X : Cx} {o e value : Expr} {f : Str} {pos pos' tpos : Pos} {ta tv : TE}
def rAdd : V → V → Hp → VK → Prop := fun x y H Q => ∃ i j, x = .int i ∧ y = .int j ∧ Q (.int (i + j)) H
def rSub : V → V → Hp → VK → Prop := fun x y H Q => ∃ i j, x = .int i ∧ y = .int j ∧ Q (.int (i - j)) H
end
section
variable {X : Cx} {pins : List (Addr × Obj)} {σ : St} {H : Hp} {s : Shared} {A : Around} {E : Value → Shared → Prop} {Q : Value → Shared → Prop} {c : Value} {b : Bool}
inductive TyOf (K : PySem.W.Frag) (H : Hp) : V → Value → Prop where
  | non : TyOf K H .non (.type "NoneType")
  | bl (x : Bool) : TyOf K H (.bl x) (.type "bool")
  | int (i : Int) : TyOf K H (.int i) (.type "int")
  | str (x : Str) : TyOf K H (.str x) (.type "str")
  | flt (x : UInt64) : TyOf K H (.flt x) (.type "float")
  | lst {a : Addr} {xs : List V} (e : H a = some (.lst xs)) : TyOf K H (.ref a) (.type "list")
  | frz {a : Addr} {o : Obj} {xs : List V} (e : H a = some (.frz o (.lst xs))) : TyOf K H (.ref a) (.type "list")
  | tup {a : Addr} {xs : List V} (e : H a = some (.tup xs)) : TyOf K H (.ref a) (.type "tuple")
  | dK {a : Addr} {kvs : List (Key × V)} (e : H a = some (.dK kvs)) : TyOf K H (.ref a) (.type "dict")
  | dT {a : Addr} {kvs : List (List TKey × V)} (e : H a = some (.dT kvs)) : TyOf K H (.ref a) (.type "dict")
  | ins {a C dx : Addr} {fs : List (Str × V)} (e : H a = some (.ins C dx fs)) (cl : Cls K C) (ha : PySem.W.findIn K (.ref C) "__class__" = some (some (.builtin "object.__class__")))
      (hn : PySem.W.specialIn K (.builtin "object.__class__") "__get__" = some (some (.builtin "getset_descriptor.__get__"))) (htk : PySem.W.takesIn K (.builtin "object.__class__") = some true)
      (hm : PySem.W.mroIn K C (.type "object") = some true) : TyOf K H (.ref a) (.ref C)
theorem isinst_ok {x : V} {u t : Value} (I : Inv X pins σ H s) (rx : RelV x u) (ty : TyOf X.K H x t) (e : PySem.W.kitOne X.K t c = some b) (h : ∀ tk, Q (.bool b) { s with toks := tk }) :
    wpAny (model X.prog X.w) A (call (.builtin "isinstance") [u, c]) Q E s := by
  cases ty with
  | non => cases (show u = Value.none from rx); exact PySem.W.kia_one PySem.W.kitx_none I.kIn True.intro e (fun z => nomatch z) h
  | bl y => cases (show u = Value.bool y from rx); exact PySem.W.kia_one PySem.W.kitx_bool I.kIn True.intro e (fun z => nomatch z) h
  | int i => obtain ⟨t, q⟩ := (show ∃ t, u = Value.int i t from rx); cases q; exact PySem.W.kia_one PySem.W.kitx_int I.kIn True.intro e (fun z => nomatch z) h
  | str y => obtain ⟨t, q⟩ := (show ∃ t, u = Value.str y t from rx); cases q; exact PySem.W.kia_one PySem.W.kitx_str I.kIn True.intro e (fun z => nomatch z) h
  | flt y => obtain ⟨t, q⟩ := (show ∃ t, u = Value.float y t from rx); cases q; exact PySem.W.kia_one PySem.W.kitx_float I.kIn True.intro e (fun z => nomatch z) h
  | @lst a xs ea =>
    cases (show u = Value.ref a from rx)
    obtain ⟨_, _, n, _, h1⟩ := (show ObjOk X.prog X.w H s.heap a (.lst xs) from I.hok a _ ea)
    exact PySem.W.kia_one PySem.W.kitx_list I.kIn ⟨_, h1, rfl⟩ e (fun z => nomatch z) h
  | @frz a ob xs ea =>
    cases (show u = Value.ref a from rx)
    obtain ⟨_, _, _, n, _, h1⟩ := (show ObjOk X.prog X.w H s.heap a (.frz ob (.lst xs)) from I.hok a _ ea)
    exact PySem.W.kia_one PySem.W.kitx_list I.kIn ⟨_, h1, rfl⟩ e (fun z => nomatch z) h
  | @tup a xs ea =>
    cases (show u = Value.ref a from rx)
    obtain ⟨_, _, _, p⟩ := (show ObjOk X.prog X.w H s.heap a (.tup xs) from I.hok a _ ea)
    obtain ⟨o, h1, h2, _⟩ := p
    exact PySem.W.kia_one PySem.W.kitx_tuple I.kIn ⟨o, h1, h2⟩ e (fun z => nomatch z) h
  | @dK a kvs ea =>
    cases (show u = Value.ref a from rx)
    obtain ⟨_, _, vs, _, p⟩ := (show ObjOk X.prog X.w H s.heap a (.dK kvs) from I.hok a _ ea)
    obtain ⟨o, es, ep, h1, h2, _⟩ := p
    exact PySem.W.kia_one PySem.W.kitx_dict I.kIn ⟨o, h1, h2.1⟩ e (fun z => nomatch z) h
  | @dT a kvs ea =>
    cases (show u = Value.ref a from rx)
    obtain ⟨_, _, xs, _, o, es, ep, h1, h2, _⟩ := (show ObjOk X.prog X.w H s.heap a (.dT kvs) from I.hok a _ ea)
    exact PySem.W.kia_one PySem.W.kitx_dict I.kIn ⟨o, h1, h2.1⟩ e (fun z => nomatch z) h
  | @ins a C dx fs ea cl ha hn htk hm =>
    cases (show u = Value.ref a from rx)
    obtain ⟨mA, O, _⟩ := ins_get I.hok ea
    obtain ⟨od, J, _⟩ := O.look
    exact PySem.W.kia_one (PySem.W.kitx_own (cl.get _) cl.hd ha hn htk hm) I.kIn J e (fun z => nomatch z) h
end
end L2
namespace L2
open PySem PySem.Spec PyProof.Rows
structure Room (k : Nat) (A : Around) : Prop where
  hd : A.handled = none
  dp : A.depth + 3 * k + 5 < recursionLimit
  un : A.units + 16 * k + 200 < cLine
theorem Room.mono {j k : Nat} {A : Around} (r : Room k A) (h : j ≤ k) : Room j A := ⟨r.hd, by have := r.dp; omega, by have := r.un; omega⟩
theorem Room.deeper {k : Nat} {A : Around} (r : Room (k + 1) A) (env : Env) : Room k (A.deeper env) :=
  ⟨r.hd, by have := r.dp; show A.depth + 1 + 3 * k + 5 < _; omega, by have := r.un; show A.units + 3 + 16 * k + 200 < _; omega⟩
theorem Room.in1 {k : Nat} {A : Around} (r : Room (k + 1) A) : Room k A.in1 :=
  ⟨r.hd, by have := r.dp; show A.depth + 3 * k + 5 < _; omega, by have := r.un; show A.units + 1 + 16 * k + 200 < _; omega⟩
theorem Room.depth {k : Nat} {A : Around} (r : Room k A) : A.depth < recursionLimit := by have := r.dp; omega
theorem Room.units {k : Nat} {A : Around} (r : Room k A) : A.units + 64 < cLine := by have := r.un; omega
def tNil : TA := fun _ H Q => Q [] H
def tCons (ta : TE) (tr : TA) : TA := fun σ H Q => ta σ H fun x H1 => tr σ H1 fun xs H2 => Q (x :: xs) H2
section
variable {X : Cx} {e : Expr} {es : List Expr} {te : TE} {t : TA} {pos : Pos}
theorem pa_nil : PA X [] tNil := fun _ _ _ _ H Q I h => Calls.spliced_nil ⟨[], H, I, .nil, h⟩
theorem pa_cons (ha : PE X e te) (hr : PA X es t) (hs : starEach (e :: es) X.env = (false, eval e X.env) :: starEach es X.env := by rfl) : PA X (e :: es) (tCons te t) := by
  intro pos pins s σ H Q I h
  rw [hs]
  show wpAny _ _ (spliced ((false, eval e X.env) :: backTo pos (starEach es X.env))) _ _ s
  refine Calls.spliced_cons (thn (ha pins s σ H _ I h) fun u s1 ⟨x, H1, I1, r1, q1⟩ => ?_)
  exact thn (hr pos pins s1 σ H1 _ I1 q1) fun us s2 ⟨xs, H2, I2, r2, q2⟩ => ⟨x :: xs, H2, I2, .cons r1 r2, q2⟩
def tTup (t : TA) : TE := fun σ H Q => t σ H fun xs H1 => xs.length ≤ sizeLine ∧ ∀ p, H1 p = none → Q (.ref p) (upd H1 p (.tup xs))
def tLst (t : TA) : TE := fun σ H Q => t σ H fun xs H1 => xs.length ≤ sizeLine ∧ ∀ p, H1 p = none → Q (.ref p) (upd H1 p (.lst xs))
theorem pe_tup {x1} (h : PA X es t) : PE X (.Tuple es x1 pos) (tTup t) := by
  intro pins s σ H Q I hq
  refine wpAny_Tuple_spliced (thn (h pos pins s σ H _ I hq) fun us s1 ⟨xs, H1, I1, r, z, q⟩ => ⟨by rw [← r.length]; exact z, ?_⟩)
  have hf : H1 s1.heap.objs.size = none := I1.hok.fresh (Nat.le_refl _)
  refine ⟨.ref s1.heap.objs.size, upd H1 s1.heap.objs.size (.tup xs), I1.laid (t' := s1.toks) (fun b u e => Heap.get?_push_of_some _ e) (Nat.le_refl _) ?_, rfl, q _ hf⟩
  exact ⟨z, us, r, ⟨_, Heap.get?_push_size _ rfl, rfl, _, rfl⟩⟩
theorem pe_lst (h : PA X es t) : PE X (.List es pos) (tLst t) := by
  intro pins s σ H Q I hq
  refine wpAny_List_spliced (thn (h pos pins s σ H _ I hq) fun us s1 ⟨xs, H1, I1, r, z, q⟩ => ⟨by rw [← r.length]; exact z, ?_⟩)
  have hf : H1 s1.heap.objs.size = none := I1.hok.fresh (Nat.le_refl _)
  refine ⟨.ref s1.heap.objs.size, upd H1 s1.heap.objs.size (.lst xs), I1.laid (t' := s1.toks) (fun b u e => Heap.get?_push_of_some _ e) (Nat.le_refl _) ?_, rfl, q _ hf⟩
  exact ⟨z, us, 0, r, Heap.get?_push_size _ rfl⟩
end
abbrev Sp := List V → Hp → VK → XK → Prop
abbrev CXT := List Env → Hp → Shared → XK → Value → Shared → Prop
structure Env0 (P : Program) (w : World) (K : PySem.W.Frag) (mg : Str → Option Value) (base : Heap) (A : Around) (outer : List Env) (s : Shared) (H : Hp) : Prop where
  frames : A.frames = some outer
  mod : Mod K mg base
  bs : ∀ b o, base.get? b = some o → s.heap.get? b = some o ∧ H b = none
  bsz : base.objs.size ≤ s.heap.objs.size
  funs : s.heap.FunFrames base outer
  frf : ∀ b ∈ frs outer, H b = none
  hok : HOk P w H s.heap
  bare : AllBare s.gens
def CE (outer : List Env) (P : Program) (w : World) (H : Hp) (s : Shared) (Q : VK) (u : Value) (s' : Shared) : Prop :=
  ∃ v H', s'.os = s.os ∧ AllBare s'.gens ∧ Un (frs outer) [] H H' s.heap s'.heap ∧ HOk P w H' s'.heap ∧ RelV v u ∧ Q v H'
def CR (CX : CXT) (outer : List Env) (P : Program) (w : World) (H : Hp) (s : Shared) (Q : VK) (E : XK) (r : Result) (s' : Shared) : Prop :=
  match r with
  | .ok (.ret u) => CE outer P w H s Q u s'
  | .ok _ => False
  | .error e => CX outer H s E e s'
structure FnOk (P : Program) (w : World) (K : PySem.W.Frag) (mg : Str → Option Value) (base : Heap) (CX : CXT) (k : Nat) (f : Addr) (fd : FuncData) (ps : List Str) (sp : Sp) : Prop where
  len : ∀ vs H Q E, sp vs H Q E → vs.length = ps.length
  run : ∀ (A : Around) (outer : List Env) (s : Shared) (H : Hp) (args : Args) (us : List Value) (vs : List V) (Q : VK) (E : XK), Room k A → Env0 P w K mg base A outer s H → BindsTo s fd args (ps.zip us) → Vals vs us → sp vs H Q E →
    codeAny (model P w) A (.call (.ref f) args) (CR CX outer P w H s Q E) s
theorem FnOk.mono {P : Program} {w : World} {K : PySem.W.Frag} {mg : Str → Option Value} {base : Heap} {CX : CXT} {j k : Nat} {f : Addr} {fd : FuncData} {ps : List Str} {sp : Sp} (F : FnOk P w K mg base CX j f fd ps sp) (h : j ≤ k) :
    FnOk P w K mg base CX k f fd ps sp := ⟨F.len, fun A outer s H args us vs Q E hr => F.run A outer s H args us vs Q E (hr.mono h)⟩
theorem FnOk.imp {P : Program} {w : World} {K : PySem.W.Frag} {mg : Str → Option Value} {base : Heap} {CX : CXT} {k : Nat} {f : Addr} {fd : FuncData} {ps : List Str} {sp sp' : Sp} (F : FnOk P w K mg base CX k f fd ps sp)
    (h : ∀ vs H Q E, sp' vs H Q E → sp vs H Q E) : FnOk P w K mg base CX k f fd ps sp' :=
  ⟨fun vs H Q E q => F.len vs H Q E (h _ _ _ _ q), fun A outer s H args us vs Q E hr he hb hv hs => F.run A outer s H args us vs Q E hr he hb hv (h _ _ _ _ hs)⟩
theorem Env0.in1 {P : Program} {w : World} {K : PySem.W.Frag} {mg : Str → Option Value} {base : Heap} {A : Around} {outer : List Env} {s : Shared} {H : Hp} (e : Env0 P w K mg base A outer s H) :
    Env0 P w K mg base A.in1 outer s H := ⟨e.frames, e.mod, e.bs, e.bsz, e.funs, e.frf, e.hok, e.bare⟩
section
variable {X : Cx} {pins : List (Addr × Obj)} {σ : St} {H : Hp} {s s' : Shared}
theorem Inv.env0 (I : Inv X pins σ H s) : Env0 X.prog X.w X.K X.mg X.base X.A X.stack s H :=
  ⟨I.ok.frames, I.ok.mod, I.bs, Nat.le_trans I.ok.bsz I.sz, I.stack, I.stkFree, I.hok, I.bare⟩
theorem Inv.after {Q : VK} {u : Value} (I : Inv X pins σ H s) (h : CE X.stack X.prog X.w H s Q u s') : EP X pins σ Q u s' := by
  obtain ⟨v, H', os, bare, un, hok, r, q⟩ := h
  obtain ⟨hh, g, d, t, os'⟩ := s'
  obtain rfl : os' = s.os := os
  exact ⟨v, H', I.call (h' := hh) (g' := g) (d' := d) (t' := t) (ch := []) un hok bare (fun b z => absurd z (by simp)), r, q⟩
end
def tCall (sp : Sp) (dvs : List V) (E : XK) (t : TA) : TE := fun σ H Q => t σ H fun vs H1 => sp (vs ++ dvs) H1 Q E
def tMeth (C : Addr) (m : Str) (sp : Sp) (dvs : List V) (E : XK) (ta : TE) (t : TA) : TE := fun σ H Q => ta σ H fun x H1 => ∃ a dx fs, x = .ref a ∧ H1 a = some (.ins C dx fs) ∧ fs.lookup m = none ∧
  t σ H1 fun vs H2 => sp (x :: (vs ++ dvs)) H2 Q E
def tMake (C : Addr) (sp : Sp) (dvs : List V) (E : XK) (t : TA) : TE := fun σ H Q => t σ H fun vs H1 => ∀ x dx, H1 x = none → H1 dx = none → dx ≠ x →
  sp (.ref x :: (vs ++ dvs)) (upd (upd H1 dx (.own x)) x (.ins C dx [])) (fun v H2 => v = .non ∧ Q (.ref x) H2) E
def Binds (K : PySem.W.Frag) (fd : FuncData) (ps : List Str) (ds : List Value) : Prop :=
  ∀ (s : Shared) (us : List Value), K.In s.heap → (us ++ ds).length = ps.length → BindsTo s fd ⟨us, []⟩ (ps.zip (us ++ ds))
theorem Binds.all {K : PySem.W.Frag} {fd : FuncData} {ps : List Str} (h : ∀ us : List Value, us.length = ps.length → bindArgs fd ⟨us, []⟩ = pure (ps.zip us)) : Binds K fd ps [] := fun s us _ hl => by
  rw [List.append_nil] at hl ⊢
  exact .of_eq (h us hl)
def Passes (CX : CXT) (X : Cx) (E : XK) : Prop := ∀ (pins : List (Addr × Obj)) (σ : St) (H : Hp) (s : Shared) (e : Value) (s' : Shared), Inv X pins σ H s → CX X.stack H s E e s' → X.xe e s'
section
variable {X : Cx} {CX : CXT} {k : Nat} {f C : Addr} {fd : FuncData} {ps : List Str} {sp : Sp} {dvs : List V} {ds : List Value} {E : XK} {x m : Str} {p pos apos : Pos} {e o : Expr} {es : List Expr} {ta : TE} {t : TA}
theorem run_fn {pins : List (Addr × Obj)} {σ : St} {H : Hp} {s : Shared} {Q : VK} {us : List Value} {vs : List V} (F : FnOk X.prog X.w X.K X.mg X.base CX k f fd ps sp) (hr : Room k X.A) (hb : Binds X.K fd ps ds) (hd : Vals dvs ds) (hx : Passes CX X E)
    (I : Inv X pins σ H s) (r : Vals vs us) (h : sp (vs ++ dvs) H Q E) : wpAny (model X.prog X.w) X.A (call (.ref f) us) (EP X pins σ Q) X.xe s := by
  have r2 : Vals (vs ++ dvs) (us ++ ds) := r.append hd
  have hl : (us ++ ds).length = ps.length := by rw [← r2.length]; exact F.len _ _ _ _ h
  refine wpAny_call (codeAny_mono (F.run X.A X.stack s H ⟨us, []⟩ (us ++ ds) (vs ++ dvs) Q E hr I.env0 (hb s us I.kIn hl) r2 h) fun r s' hq => ?_)
  cases r with
  | error e => exact hx pins σ H s e s' I hq
  | ok fl =>
    cases fl with
    | ret u => exact I.after hq
    | next => exact False.elim hq
    | brk => exact False.elim hq
    | cont => exact False.elim hq
theorem pe_call (F : FnOk X.prog X.w X.K X.mg X.base CX k f fd ps sp) (hr : Room k X.A) (hg : Gl X x) (hm : X.mg x = some (.ref f)) (hk : PySem.W.keepIn X.K (.ref f) = true) (hb : Binds X.K fd ps ds) (hd : Vals dvs ds) (hx : Passes CX X E)
    (ha : PA X (e :: es) t) (hdb : (x == ("__debug__" : Str)) = false := by decide) (he : starEach (e :: es) X.env = (false, eval e X.env) :: starEach es X.env := by rfl) (hpl : (backTo pos (starEach es X.env)).any (·.1) = false := by rfl) :
    PE X (.Call (.Name x p) (e :: es) [] pos) (tCall sp dvs E t) := by
  intro pins s σ H Q I h
  refine wpAny_Call_Name_kw (ld_glob I hg hm ?_ hdb)
  refine PySem.W.callWith_K (h₀ := X.base) I.ok.mod.kin hk (thn (ha pos pins s σ H _ I h) fun us s1 ⟨vs, H1, I1, r, q⟩ => ⟨I1.kIn, ?_⟩) he hpl
  exact run_fn F hr hb hd hx I1 r q
structure Mk (K : PySem.W.Frag) (C f : Addr) : Prop where
  makes : PySem.W.makesIn K C = true
  init : PySem.W.findIn K (.ref C) "__init__" = some (some (.ref f))
  fn : PySem.W.isFn K (.ref f) = true
  kp : PySem.W.keepIn K (.ref C) = true
end
def PK (X : Cx) (kws : List Keyword) (t : TA) : Prop :=
  ∀ (pos : Pos) (pins : List (Addr × Obj)) (s : Shared) (σ : St) (H : Hp) (Q : List V → Hp → Prop), Inv X pins σ H s → t σ H Q → wpAny (model X.prog X.w) X.A (evalAll ((backToKw pos (keywordEach kws X.env)).map (·.2))) (AP X pins σ Q) X.xe s
section
variable {X : Cx} {CX : CXT} {k : Nat} {f C : Addr} {fd : FuncData} {ps ks : List Str} {sp : Sp} {E : XK} {x m : Str} {p pos apos kpos : Pos} {e o : Expr} {es : List Expr} {kws : List Keyword} {te ta : TE} {t tk : TA} {nm : Option Str}
structure KBinds (K : PySem.W.Frag) (fd : FuncData) (ps ks : List Str) (g : List Value → List Value → List Value) (gV : List V → List V → List V) : Prop where
  to : ∀ (s : Shared) (us ws : List Value), K.In s.heap → (g us ws).length = ps.length → BindsTo s fd ⟨us, ks.zip ws⟩ (ps.zip (g us ws))
  rel : ∀ {vs : List V} {us : List Value} {zs : List V} {ws : List Value}, Vals vs us → Vals zs ws → Vals (gV vs zs) (g us ws)
def tCallK (sp : Sp) (gV : List V → List V → List V) (E : XK) (t tk : TA) : TE := fun σ H Q => t σ H fun vs H1 => tk σ H1 fun zs H2 => sp (gV vs zs) H2 Q E
variable {g : List Value → List Value → List Value} {gV : List V → List V → List V}
end
structure FnScope (N P : List Str) (sc : Scope) : Prop where
  kind : sc.kind = .function
  co : sc.isCoroutine = false
  gen : sc.isGenerator = false
  nd : N.Nodup
  pre : N.take P.length = P
  par : ∀ x ∈ P, sc.names.lookup x = some .local ∨ sc.names.lookup x = some .cell
  nofree : ∀ y ∈ sc.names, y.2 ≠ .free
theorem bindL_out {kindOf : Str → Option NameKind} {x : Str} : ∀ {binds : List (Str × Value)} {m : Str → Option Value}, (∀ v, (x, v) ∉ binds) → bindL kindOf binds m x = m x
  | [], _, _ => rfl
  | (n, v) :: r, m, h => by
    unfold bindL
    rw [bindL_out fun w hw => h w (List.mem_cons_of_mem _ hw)]
    split
    · have : x ≠ n := by rintro rfl; exact h v List.mem_cons_self
      simp [this]
    · rfl
theorem bindC_out {kindOf : Str → Option NameKind} {x : Str} : ∀ {binds : List (Str × Value)} {m : Str → Option Value}, (∀ v, (x, v) ∉ binds) → bindC kindOf binds m x = m x
  | [], _, _ => rfl
  | (n, v) :: r, m, h => by
    unfold bindC
    rw [bindC_out fun w hw => h w (List.mem_cons_of_mem _ hw)]
    split
    · rfl
    · have : x ≠ n := by rintro rfl; exact h v List.mem_cons_self
      simp [this]
theorem bindL_get {kindOf : Str → Option NameKind} {x : Str} {v : Value} : ∀ {P : List Str} {vs : List Value} {i : Nat} {m : Str → Option Value}, P.Nodup → P[i]? = some x → vs[i]? = some v → kindOf x = some .local →
    bindL kindOf (P.zip vs) m x = some v
  | [], _, _, _, _, h, _, _ => by simp at h
  | _ :: _, [], _, _, _, _, h, _ => by simp at h
  | p :: P, w :: vs, 0, m, nd, h1, h2, hk => by
    simp at h1 h2; subst h1; subst h2
    show bindL kindOf ((p, w) :: P.zip vs) m p = _
    unfold bindL
    rw [bindL_out fun v hv => (List.nodup_cons.mp nd).1 (List.of_mem_zip hv).1, if_pos hk]
    simp
  | p :: P, w :: vs, i + 1, m, nd, h1, h2, hk => by
    show bindL kindOf ((p, w) :: P.zip vs) m x = _
    unfold bindL
    exact bindL_get (i := i) (List.nodup_cons.mp nd).2 (by simpa using h1) (by simpa using h2) hk
theorem bindC_get {kindOf : Str → Option NameKind} {x : Str} {v : Value} : ∀ {P : List Str} {vs : List Value} {i : Nat} {m : Str → Option Value}, P.Nodup → P[i]? = some x → vs[i]? = some v → kindOf x ≠ some .local →
    bindC kindOf (P.zip vs) m x = some v
  | [], _, _, _, _, h, _, _ => by simp at h
  | _ :: _, [], _, _, _, _, h, _ => by simp at h
  | p :: P, w :: vs, 0, m, nd, h1, h2, hk => by
    simp at h1 h2; subst h1; subst h2
    show bindC kindOf ((p, w) :: P.zip vs) m p = _
    unfold bindC
    rw [bindC_out fun v hv => (List.nodup_cons.mp nd).1 (List.of_mem_zip hv).1, if_neg hk]
    simp
  | p :: P, w :: vs, i + 1, m, nd, h1, h2, hk => by
    show bindC kindOf ((p, w) :: P.zip vs) m x = _
    unfold bindC
    exact bindC_get (i := i) (List.nodup_cons.mp nd).2 (by simpa using h1) (by simpa using h2) hk
def start (N : List Str) (vs : List V) : St := vs.map some ++ List.replicate (N.length - vs.length) none
def cxOf (CX : CXT) (P : Program) (w : World) (K : PySem.W.Frag) (mg : Str → Option Value) (base : Heap) (N : List Str) (qual : Str) (scope : Scope) (f : Addr) (cd : Value) (A : Around) (outer : List Env) (s : Shared) (H : Hp) (E : XK) : Cx where
  prog := P
  w := w
  K := K
  mg := mg
  base := base
  A := A.deeper (envOfC qual scope s.heap.objs.size f cd)
  N := N
  s₀ := s
  H₀ := H
  env := envOfC qual scope s.heap.objs.size f cd
  outer := outer
  stack := envOfC qual scope s.heap.objs.size f cd :: outer
  ex := []
  calm := true
  fn := fun _ => true
  pn := []
  xe := fun e s' => wpAny (model P w) (A.deeper (envOfC qual scope s.heap.objs.size f cd)) (leaving (envOfC qual scope s.heap.objs.size f cd) e) (fun _ s'' => CX outer H s E e s'') (fun e' s'' => CX outer H s E e' s'') s'
theorem cell_has {sc : Scope} {n : Nat} {x : Str} (h : sc.names.lookup x = some .cell) : ∃ c, (cellsFrom n sc.names []).lookup x = some c := by
  have q := PySem.W.cellsFrom_some sc.names n [] (.inl h)
  exact Option.isSome_iff_exists.mp q
theorem inv_start {CX : CXT} {P : Program} {w : World} {K : PySem.W.Frag} {mg : Str → Option Value} {base : Heap} {N ps : List Str} {qual : Str} {scope : Scope} {f : Addr} {cd : Value} {A : Around} {outer : List Env} {s s1 : Shared} {H : Hp} {E : XK} {us : List Value} {vs : List V}
    (S : FnScope N ps scope) (hd : A.handled = none) (e0 : Env0 P w K mg base A outer s H) (hl : vs.length = ps.length) (r : Vals vs us)
    (x : InCallC s s.heap.objs.size (bindL (envOfC qual scope s.heap.objs.size f cd).kindOf (ps.zip us) fun _ => none) (cellsFrom (s.heap.objs.size + 1) scope.names []) (bindC (envOfC qual scope s.heap.objs.size f cd).kindOf (ps.zip us) fun _ => none) s1) :
    Inv (cxOf CX P w K mg base N qual scope f cd A outer s H E) [] (start N vs) H s1 := by
  have hpl : ps.length ≤ N.length := by have := congrArg List.length S.pre; rw [List.length_take] at this; omega
  obtain ⟨h1, tk, rfl, hk⟩ := x.done
  have noA : ∀ b : Addr, b ∉ (cxOf CX P w K mg base N qual scope f cd A outer s H E).ex := fun b z => absurd (show b ∈ ([] : List Addr) from z) (by simp)
  refine ⟨⟨e0.mod, S.kind, rfl, rfl, Nat.le_refl _, fun y z c h1 h2 => ?_, fun y hy => ?_, fun y c _ h => ?_, fun _ => hd, Around.frames_deeper e0.frames, .inr ⟨rfl, rfl⟩, fun b z => absurd z (noA b), e0.bs, e0.bsz, fun b _ _ => noA b, fun b z => absurd z (noA b), e0.funs, e0.frf⟩,
    rfl, e0.bare, Un.kept hk, ⟨_, x.toInCall.ns, fun i y v h1 h2 h3 => ?_⟩, fun y c h => ⟨_, x.cell y c h⟩, e0.hok.fresh (Nat.le_refl _), fun y c h => ?_, fun p hp => absurd (show p ∈ ([] : List (Addr × Obj)) from hp) (by simp), e0.hok.kept hk, ?_⟩
  · exact name_of_addr x.apart (PySem.mem_of_lookup h1) (PySem.mem_of_lookup h2)
  · have hy : scope.names.lookup y = some .cell ∨ scope.names.lookup y = some .free := hy
    rcases hy with hy | hy
    · exact cell_has hy
    · exact absurd rfl (S.nofree _ (PySem.mem_of_lookup hy))
  · exact Nat.le_of_lt (x.above y c (PySem.mem_of_lookup h))
  · have hi : i < vs.length := by
      unfold start at h2
      by_cases hi : i < vs.length
      · exact hi
      · rw [List.getElem?_append_right (by simpa using hi)] at h2
        rw [List.getElem?_replicate] at h2
        split at h2 <;> cases h2
    have ha : vs[i]? = some v := by
      unfold start at h2
      rw [List.getElem?_append_left (by simpa using hi), List.getElem?_map] at h2
      cases e : vs[i]? with
      | none => rw [e] at h2; cases h2
      | some a => rw [e] at h2; cases h2; rfl
    obtain ⟨u, hu, rv⟩ := r.get ha
    have hp : ps[i]? = some y := by
      rw [← S.pre, List.getElem?_take_of_lt (by omega)]; exact h1
    have ndP : ps.Nodup := by rw [← S.pre]; exact S.nd.sublist (List.take_sublist _ _)
    refine ⟨u, rv, ?_⟩
    rcases S.par y (List.mem_of_getElem? hp) with k | k
    · exact .inl ⟨k, bindL_get ndP hp hu k⟩
    · obtain ⟨c, e⟩ := cell_has (n := s.heap.objs.size + 1) k
      refine .inr ⟨.inl k, c, e, ?_⟩
      have q := x.cell y c e
      rw [bindC_get ndP hp hu (by show scope.names.lookup y ≠ _; rw [k]; decide)] at q
      exact q
  · exact e0.hok.fresh (Nat.le_of_lt (x.above y c (PySem.mem_of_lookup h)))
  · unfold start
    show _ = N.length
    rw [List.length_append, List.length_map, List.length_replicate]
    omega
theorem fn_of {CX : CXT} {P : Program} {w : World} {K : PySem.W.Frag} {mg : Str → Option Value} {base : Heap} {k : Nat} {f : Addr} {name qual : Str} {params : Arguments} {body : List Stmt} {scope : Scope} {dV kV doc pm cdv ct oc : Value} {an od : Option Addr}
    {osl : Array (Option Value)} {N ps : List Str} {sp : Sp} (lk : K.lookup f = some ⟨oc, od, .func (PySem.W.fnOf name qual params body scope dV kV doc pm an cdv ct), osl⟩) (hcd : PySem.W.codeIn K cdv qual = true) (S : FnScope N ps scope)
    (len : ∀ vs H Q E, sp vs H Q E → vs.length = ps.length)
    (hbody : ∀ (A : Around) (outer : List Env) (s : Shared) (H : Hp) (vs : List V) (Q : VK) (E : XK), Room k (A.deeper (envOfC qual scope s.heap.objs.size f cdv)) → sp vs H Q E →
      ∃ t, PSs (cxOf CX P w K mg base N qual scope f cdv A outer s H E) body t ∧ t { nx := fun _ H' => Q .non H', rt := Q } (start N vs) H) :
    FnOk P w K mg base CX (k + 1) f (PySem.W.fnOf name qual params body scope dV kV doc pm an cdv ct) ps sp := by
  refine ⟨len, fun A outer s H args us vs Q E hr e0 hb r hsp => ?_⟩
  have hl := len _ _ _ _ hsp
  have KX : K.In s.heap := e0.mod.kin.keeps fun b o e => (e0.bs b o e).1
  have lim : s.heap.NoLimit := e0.mod.nolimit.keeps fun b o e => (e0.bs b o e).1
  have hkind : ∀ y ∈ ps.zip us, scope.names.lookup y.1 = some .local ∨ (scope.names.lookup y.1 = some .cell ∧ ((cellsFrom (s.heap.objs.size + 1) scope.names []).lookup y.1).isSome = true) := fun ⟨n, v⟩ hy => by
    rcases S.par n (List.of_mem_zip hy).1 with q | q
    · exact .inl q
    · exact .inr ⟨q, PySem.W.cellsFrom_some _ _ _ (.inl q)⟩
  refine codeAny_call_function hr.depth (KX _ _ lk) rfl S.co S.gen rfl (PySem.W.codeRec_of KX hcd) (hb _ _ _ _ ?_)
  refine wpAny_newFunctionEnv_cells S.kind hkind fun env he s1 x => ?_
  subst he
  refine ⟨lim.keeps x.toInCall.keep, codeAny_func ?_⟩
  obtain ⟨t, ht, hq⟩ := hbody A outer s H vs Q E (hr.deeper _) hsp
  have I : Inv (cxOf CX P w K mg base N qual scope f cdv A outer s H E) [] (start N vs) H s1 := inv_start S hr.hd e0 hl r x
  refine wpAny_mono (ht [] s1 (start N vs) H _ I hq) (fun fl s' hs => ?_) fun e s' hs => hs
  have fin : ∀ {σ' : St} {H' : Hp} {v : V} {u : Value}, Inv (cxOf CX P w K mg base N qual scope f cdv A outer s H E) [] σ' H' s' → RelV v u → Q v H' → CE outer P w H s Q u s' :=
    fun {σ' H' v u} J rv q => ⟨v, H', J.os, J.bare, J.base, J.hok, rv, q⟩
  cases fl with
  | ret u =>
    obtain ⟨v, σ', H', J, rv, q⟩ := hs
    exact fin J rv q
  | next =>
    obtain ⟨σ', H', J, q⟩ := hs
    exact fin (v := V.non) (u := Value.none) J rfl q
  | brk =>
    obtain ⟨_, _, _, q⟩ := hs
    exact False.elim q
  | cont =>
    obtain ⟨_, _, _, q⟩ := hs
    exact False.elim q
end L2
namespace L2
open PySem PySem.Spec PyProof.Rows
section
variable {X : Cx} {x : Str} {p pos : Pos} {e : Expr} {es : List Expr} {t : TA} {id T : String} {r : List V → Hp → VK → Prop}
def tCB (r : List V → Hp → VK → Prop) (t : TA) : TE := fun σ H Q => t σ H fun vs H1 => r vs H1 Q
theorem pe_callB (hc : CallR X (.builtin id) r) (hg : Gl X x) (hm : X.mg x = none) (hv : bootBuiltins x = some (.builtin id)) (ha : PA X (e :: es) t) (hn : x ≠ "__name__" := by decide) (hdb : (x == ("__debug__" : Str)) = false := by decide)
    (he : starEach (e :: es) X.env = (false, eval e X.env) :: starEach es X.env := by rfl) (hpl : (backTo pos (starEach es X.env)).any (·.1) = false := by rfl) : PE X (.Call (.Name x p) (e :: es) [] pos) (tCB r t) := by
  intro pins s σ H Q I h
  refine wpAny_Call_Name_kw (ld_blt I hg hm hv ?_ hn hdb)
  exact PyProof.Rows.callWith_builtin1 (thn (ha pos pins s σ H _ I h) fun us s1 ⟨vs, H1, I1, r1, q1⟩ => hc pins s1 σ H1 vs us Q I1 r1 q1) he hpl
theorem pe_callTy (hc : CallR X (.type T) r) (hg : Gl X x) (hm : X.mg x = none) (hv : bootBuiltins x = some (.type T)) (ha : PA X (e :: es) t) (hn : x ≠ "__name__" := by decide) (hdb : (x == ("__debug__" : Str)) = false := by decide)
    (he : starEach (e :: es) X.env = (false, eval e X.env) :: starEach es X.env := by rfl) (hpl : (backTo pos (starEach es X.env)).any (·.1) = false := by rfl) : PE X (.Call (.Name x p) (e :: es) [] pos) (tCB r t) := by
  intro pins s σ H Q I h
  refine wpAny_Call_Name_kw (ld_blt I hg hm hv ?_ hn hdb)
  exact PyProof.Rows.callWith_type1 (thn (ha pos pins s σ H _ I h) fun us s1 ⟨vs, H1, I1, r1, q1⟩ => hc pins s1 σ H1 vs us Q I1 r1 q1) he hpl
end
end L2
namespace HT
open PySem PyProof.Rows
def lexLt : List Int → List Int → Bool
  | [], [] => false
  | [], _ :: _ => true
  | _ :: _, [] => false
  | x :: xs, y :: ys => if x = y then lexLt xs ys else decide (x < y)
section
open PySem.SeqAt
open PySem.AutoSeq1 (wpAny_loadPart')
open PySem.MeetsSeq PySem.MeetsSeq2 PySem.MeetsSeq3
end
section
variable {prog : Program} {w : World} {A : Around} {E : Value → Shared → Prop} {s : Shared}
theorem cat_tup {t b : Addr} {vs ws : List Value} {Q : Value → Shared → Prop} (ht : IsTup s.heap t vs.toArray) (hb : IsTup s.heap b ws.toArray) (hv : vs ≠ [])
    (h1 : ws = [] → Q (.ref t) s) (h2 : ws ≠ [] → Q (.ref s.heap.objs.size) { s with heap := s.heap.push { cls := .type "tuple", data := .seq (vs ++ ws).toArray } })
    (hsz : vs.length + ws.length ≤ sizeLine) : wpAny (model prog w) A (binaryOp .Add (.ref t) (.ref b)) Q E s := by
  obtain ⟨⟨cls, dd, data, sl⟩, ho, hc, n, hd⟩ := id ht
  obtain ⟨⟨cls2, dd2, data2, sl2⟩, ho2, hc2, n2, hd2⟩ := id hb
  simp only at hc hd hc2 hd2
  subst hc hd hc2 hd2
  have e : vs.toArray ++ ws.toArray = (vs ++ ws).toArray := by simp
  by_cases hw : ws = []
  · exact concat_meets ⟨_, ho, rfl⟩ ⟨_, ho2, rfl⟩ noFill_tuple_add seq_tuple_add PySem.F.slot_tuple_add PySem.F.entry_tuple_add (PySem.F.args_tuple_add_2 _ _)
      (tuple_addW1 t b vs.toArray ws.toArray n n2 dd dd2 sl sl2 (by simpa using hv) (by simp [hw])) ⟨ho, ho2, h1 hw⟩
  · refine concat_meets ⟨_, ho, rfl⟩ ⟨_, ho2, rfl⟩ noFill_tuple_add seq_tuple_add PySem.F.slot_tuple_add PySem.F.entry_tuple_add (PySem.F.args_tuple_add_2 _ _)
      (tuple_addW2 t b vs.toArray ws.toArray n n2 dd dd2 sl sl2 (by simpa using hv) (by simpa using hw) (by rw [List.size_toArray, List.size_toArray]; exact hsz)) ⟨ho, ho2, ?_⟩
    rw [e]
    exact h2 hw
def sIx (n d : Nat) : Option Int → Nat
  | none => d
  | some v => if v < 0 then (v + (n : Int)).toNat else min v.toNat n
theorem sIx_nat (n d k : Nat) : sIx n d (some (k : Int)) = min k n := by
  show (if (k : Int) < 0 then ((k : Int) + (n : Int)).toNat else min (k : Int).toNat n) = min k n
  rw [if_neg (by omega), Int.toNat_natCast]
theorem sIx_le (n d : Nat) (hd : d ≤ n) (o : Option Int) : sIx n d o ≤ n := by
  cases o with
  | none => exact hd
  | some v =>
    show (if v < 0 then (v + (n : Int)).toNat else min v.toNat n) ≤ n
    by_cases hv : v < 0
    · rw [if_pos hv]; omega
    · rw [if_neg hv]; exact Nat.min_le_right _ _
theorem clip_eq (v : Int) (n d : Nat) : (if v < 0 then max (v + (n : Int)) 0 else min v (n : Int)) = ((sIx n d (some v) : Nat) : Int) := by
  show (if v < 0 then max (v + (n : Int)) 0 else min v (n : Int)) = (((if v < 0 then (v + (n : Int)).toNat else min v.toNat n) : Nat) : Int)
  by_cases hv : v < 0
  · simp only [if_pos hv]; omega
  · simp only [if_neg hv]; omega
theorem adjust_gen (lo hi : Option Int) (n : Nat) : Builtin.Slice.sliceAdjust lo hi 1 (n : Int) = (((sIx n 0 lo : Nat) : Int), ((sIx n n hi : Nat) : Int)) := by
  have h1 : ¬ ((1 : Int) < 0) := by omega
  unfold Builtin.Slice.sliceAdjust
  simp only [h1, if_false]
  refine Prod.ext ?_ ?_
  · cases lo with
    | none => rfl
    | some v => exact clip_eq v n 0
  · cases hi with
    | none => rfl
    | some v => exact clip_eq v n n
theorem places_gen (i j : Nat) : Builtin.Slice.slicePlaces (i : Int) (j : Int) 1 = j - i := by
  unfold Builtin.Slice.slicePlaces
  have h1 : (1 : Int) > 0 := by omega
  simp only [h1, if_true, Int.ediv_one]
  split <;> omega
theorem slicePart_ {v : Value} {o : Option Int} {Q : Option Int → Shared → Prop} (p : IsPart v o) (h : Q o s) : wpAny (model prog w) A (Builtin.Slice.slicePartIndex v) Q E s := by
  cases p with
  | none => exact slicePart_none h
  | int i t => exact slicePart_int h
theorem sliceApplied_gen {sl : Addr} {vl vu : Value} {lo hi : Option Int} {n : Nat} {Q : Int × Int × Nat → Shared → Prop} (hs : s.heap.IsSliceOf sl vl vu .none) (pl : IsPart vl lo) (pu : IsPart vu hi)
    (h : Q (((sIx n 0 lo : Nat) : Int), 1, sIx n n hi - sIx n 0 lo) s) : wpAny (model prog w) A (Builtin.Slice.sliceApplied (.ref sl) (pure (n : Int))) Q E s := by
  obtain ⟨os, hos, hcs, hds⟩ := id hs
  unfold Builtin.Slice.sliceApplied Builtin.Slice.sliceFields
  refine wpAny_bind (wpAny_bind (wpAny_field hos hds (x := vl) rfl (wpAny_bind (wpAny_field hos hds (x := vu) rfl (wpAny_bind (wpAny_field hos hds (x := .none) rfl (wpAny_pure ?_)))))))
  refine wpAny_bind (slicePart_none ?_)
  show wpAny _ _ (if ((1 : Int) == 0) = true then _ else _) _ _ s
  rw [if_neg (by decide)]
  refine wpAny_bind (slicePart_ pl (wpAny_bind (slicePart_ pu (wpAny_bind (wpAny_pure ?_)))))
  show wpAny _ _ (match Builtin.Slice.sliceAdjust lo hi 1 (n : Int) with | (lo, hi) => pure (lo, (1 : Int), Builtin.Slice.slicePlaces lo hi 1)) _ _ s
  rw [adjust_gen lo hi n]
  show wpAny _ _ (pure (((sIx n 0 lo : Nat) : Int), (1 : Int), Builtin.Slice.slicePlaces ((sIx n 0 lo : Nat) : Int) ((sIx n n hi : Nat) : Int) 1)) _ _ s
  rw [places_gen]
  exact wpAny_pure h
theorem pick_gen (xs : Array Value) (i k : Nat) : ((List.range k).filterMap fun (m : Nat) => xs[((i : Int) + (m : Int) * 1).toNat]?).toArray = ((xs.toList.drop i).take k).toArray := by
  have e : (fun (m : Nat) => xs[((i : Int) + (m : Int) * 1).toNat]?) = fun m => xs[i + m]? := by
    funext m
    have : ((i : Int) + (m : Int) * 1).toNat = i + m := by omega
    rw [this]
  rw [e]
  have := pick_run xs i k
  rw [List.filterMap_map] at this
  have e2 : ((fun x => xs[x]?) ∘ fun x => i + x) = fun m => xs[i + m]? := rfl
  rw [e2] at this
  rw [this]
theorem getItem_tuple_cut {t sl : Addr} {items : Array Value} {vl vu : Value} {lo hi : Option Int} {Q : Value → Shared → Prop} (ht : IsTup s.heap t items) (hs : s.heap.IsSliceOf sl vl vu .none) (pl : IsPart vl lo) (pu : IsPart vu hi)
    (hw : ¬ (sIx items.size 0 lo = 0 ∧ sIx items.size items.size hi = items.size))
    (h : Q (.ref s.heap.objs.size) { s with heap := s.heap.push { cls := .type "tuple", data := .seq ((items.toList.drop (sIx items.size 0 lo)).take (sIx items.size items.size hi - sIx items.size 0 lo)).toArray } })
    (hsz : items.size ≤ sizeLine) : wpAny (model prog w) A (getItem (.ref t) (.ref sl)) Q E s := by
  have htake : sizeOk (.seq ((items.toList.drop (sIx items.size 0 lo)).take (sIx items.size items.size hi - sIx items.size 0 lo)).toArray) := by
    show ((items.toList.drop (sIx items.size 0 lo)).take (sIx items.size items.size hi - sIx items.size 0 lo)).toArray.size ≤ sizeLine
    rw [List.size_toArray, List.length_take, List.length_drop, Array.length_toList]
    omega
  have hj : sIx items.size items.size hi ≤ items.size := sIx_le _ _ (Nat.le_refl _) hi
  obtain ⟨os, hos, hcs, hds⟩ := id hs
  have hTs : s.TypeIs (.ref sl) "slice" := ⟨os, hos, hcs⟩
  unfold getItem
  try with_reducible refine wpAny_holding ?_
  first | refine wpAny_bind (wpAny_pure ?_) | skip
  refine wpAny_bind (wpAny_sequenceKey ht.typeIs (by decide) ?_)
  refine wpAny_bind (wpAny_callSpecial?_slot (name := Str.ofString "__getitem__") ht.typeIs PyProof.Rows.slot_tuple_getitem
    (wpAny_call_entry PyProof.Rows.slot_tuple_getitem ht.typeIs entry_tuple_getitem ?_ (args_tuple_getitem _ _)))
  show wpAny _ _ (Builtin.Tuple.tupleItemsOf (.ref t) >>= _) _ _ s
  refine wpAny_bind (tupleItemsOf_ ht ?_)
  refine wpAny_bind (wpAny_typeOf hTs ?_)
  rw [if_pos (by decide)]
  refine wpAny_bind (sliceApplied_gen hs pl pu ?_)
  have hno : ¬ ((((sIx items.size 0 lo : Nat) : Int) == 0 && (1 : Int) == 1 && (sIx items.size items.size hi - sIx items.size 0 lo) == items.size) = true) := by
    intro q
    rw [Bool.and_eq_true, Bool.and_eq_true] at q
    have q1 : ((sIx items.size 0 lo : Nat) : Int) = 0 := eq_of_beq q.1.1
    have q2 : sIx items.size items.size hi - sIx items.size 0 lo = items.size := eq_of_beq q.2
    exact hw ⟨by omega, by omega⟩
  show wpAny _ _ (if (((sIx items.size 0 lo : Nat) : Int) == 0 && (1 : Int) == 1 && (sIx items.size items.size hi - sIx items.size 0 lo) == items.size) = true then _ else _) _ _ s
  rw [if_neg hno, pick_gen]
  first
    | exact wpAny_bind (m := Builtin.Tuple.tupleExact _) (wpAny_newObj_type (wpAny_pure ⟨_, rfl, wpAny_pure h⟩) htake)
    | exact wpAny_bind (m := Builtin.Tuple.tupleExact _) (wpAny_newObj_type (wpAny_bind (wpAny_pure (wpAny_pure ⟨_, rfl, wpAny_pure h⟩))) htake)
    | exact wpAny_bind (wpAny_bind (m := Builtin.Tuple.tupleExact _) (wpAny_newObj_type (wpAny_pure (wpAny_pure ⟨_, rfl, wpAny_pure h⟩)) htake))
    | exact wpAny_bind (wpAny_bind (m := Builtin.Tuple.tupleExact _) (wpAny_newObj_type (wpAny_pure ⟨_, rfl, wpAny_pure h⟩) htake))
end
end HT
namespace L2
open PySem PySem.Spec PyProof.Rows
abbrev TO := St → Hp → (Option Int → Hp → Prop) → Prop
def PO (X : Cx) (e : Option Expr) (t : TO) : Prop :=
  ∀ (pins : List (Addr × Obj)) (s : Shared) (σ : St) (H : Hp) (Q : Option Int → Hp → Prop), Inv X pins σ H s → t σ H Q →
    wpAny (model X.prog X.w) X.A (evalPart e X.env) (fun u s' => ∃ o H', Inv X pins σ H' s' ∧ IsPart u o ∧ Q o H') X.xe s
def tNoPart : TO := fun _ H Q => Q none H
def tPart (t : TE) : TO := fun σ H Q => t σ H fun x H1 => ∃ i, x = .int i ∧ Q (some i) H1
section
variable {X : Cx} {e : Expr} {te : TE} {lo hi : Option Expr} {tl th : TO} {pos p2 : Pos}
theorem po_none : PO X none tNoPart := by
  intro pins s σ H Q I h
  rw [evalPart_none]
  exact wpAny_pure ⟨none, H, I, .none, h⟩
theorem po_some (h : PE X e te) : PO X (some e) (tPart te) := by
  intro pins s σ H Q I hw
  rw [evalPart_some]
  refine thn (h pins s σ H _ I hw) fun u s1 ⟨x, H1, I1, r1, q1⟩ => ?_
  obtain ⟨i, rfl, q⟩ := q1
  obtain ⟨t, rfl⟩ := r1
  exact ⟨some i, H1, I1, .int i t, q⟩
def SlR (X : Cx) (r : V → Option Int → Option Int → Hp → VK → Prop) : Prop :=
  ∀ (pins : List (Addr × Obj)) (s : Shared) (σ : St) (H : Hp) (x : V) (v vl vu : Value) (lo hi : Option Int) (sl : Addr) (Q : VK), Inv X pins σ H s → RelV x v → s.heap.IsSliceOf sl vl vu .none → IsPart vl lo → IsPart vu hi → r x lo hi H Q →
    ∃ T id, typeLookup (.type T) "__getitem__" = pure (some (.builtin id)) ∧ s.TypeIs v T ∧ wpAny (model X.prog X.w) X.A (getItem v (.ref sl)) (EP X pins σ Q) X.xe s
theorem SlR.or {r r' : V → Option Int → Option Int → Hp → VK → Prop} (h : SlR X r) (h' : SlR X r') : SlR X (fun x lo hi H Q => r x lo hi H Q ∨ r' x lo hi H Q) := by
  intro pins s σ H x v vl vu lo hi sl Q I rx hs pl pu q
  rcases q with q | q
  · exact h pins s σ H x v vl vu lo hi sl Q I rx hs pl pu q
  · exact h' pins s σ H x v vl vu lo hi sl Q I rx hs pl pu q
def tSl (r : V → Option Int → Option Int → Hp → VK → Prop) (te : TE) (tl th : TO) : TE := fun σ H Q => te σ H fun x H1 => tl σ H1 fun l H2 => th σ H2 fun u H3 => r x l u H3 Q
theorem pe_slice {r : V → Option Int → Option Int → Hp → VK → Prop} (hr : SlR X r) (he : PE X e te) (hl : PO X lo tl) (hu : PO X hi th) : PE X (.Subscript e (.Slice lo hi none p2) pos) (tSl r te tl th) := by
  intro pins s σ H Q I h
  refine Subscript_ (thn (he pins s σ H _ I h) fun v s1 ⟨x, H1, I1, r1, q1⟩ => ?_)
  refine wpAny_Slice (thn (hl pins s1 σ H1 _ I1 q1) fun vl s2 ⟨l, H2, I2, pl, q2⟩ => thn (hu pins s2 σ H2 _ I2 q2) fun vu s3 ⟨u, H3, I3, pu, q3⟩ => ?_)
  rw [evalPart_none]
  refine wpAny_pure ?_
  have I4 : Inv X pins σ H3 { s3 with heap := s3.heap.push { cls := .type "slice", data := .fields #[vl, vu, .none] } } := I3.kept (t' := s3.toks) fun b ob q => Heap.get?_push_of_some _ q
  obtain ⟨T, id, hT, ht, hg⟩ := hr pins { s3 with heap := s3.heap.push { cls := .type "slice", data := .fields #[vl, vu, .none] } } σ H3 x v vl vu l u s3.heap.objs.size Q I4 r1 (Heap.IsSliceOf.new ..) pl pu q3
  show wpAny (model X.prog X.w) X.A (subscriptTail e (.Slice lo hi none p2) v (.ref s3.heap.objs.size)) (EP X pins σ Q) X.xe { s3 with heap := s3.heap.push { cls := .type "slice", data := .fields #[vl, vu, .none] } }
  exact tail_any (ops := [.ref s3.heap.objs.size, v]) ht hT hg (by with_unfolding_all rfl)
def cutV (xs : List V) (lo hi : Option Int) : List V := (xs.drop (HT.sIx xs.length 0 lo)).take (HT.sIx xs.length xs.length hi - HT.sIx xs.length 0 lo)
theorem cutV_length (xs : List V) (lo hi : Option Int) : (cutV xs lo hi).length ≤ xs.length := by
  unfold cutV
  rw [List.length_take, List.length_drop]
  omega
def rSlT (K : PySem.W.Frag) : V → Option Int → Option Int → Hp → VK → Prop := fun x lo hi H Q => ∃ a xs, x = .ref a ∧ SqT K H a xs ∧
  ¬ (HT.sIx xs.length 0 lo = 0 ∧ HT.sIx xs.length xs.length hi = xs.length) ∧ ∀ p, H p = none → Q (.ref p) (upd H p (.tup (cutV xs lo hi)))
theorem sl_tup : SlR X (rSlT X.K) := by
  intro pins s σ H x v vl vu lo hi sl Q I rx hs pl pu h
  obtain ⟨a, xs, rfl, hx, hw, q⟩ := h
  cases rx
  obtain ⟨its, r, ht, hz⟩ := I.tuple hx
  have hlen : its.toArray.size = xs.length := by rw [List.size_toArray]; exact r.length.symm
  refine ⟨"tuple", _, PyProof.Rows.slot_tuple_getitem.lookup, ht.typeIs, ?_⟩
  refine HT.getItem_tuple_cut ht hs pl pu (by rw [hlen]; exact hw) ?_ (by rw [hlen]; exact hz)
  rw [hlen]
  refine ⟨.ref s.heap.objs.size, _, I.laid (t' := s.toks) (o := .tup (cutV xs lo hi)) (fun b ob q => Heap.get?_push_of_some _ q) (Nat.le_refl _) ?_, rfl, q _ (I.hok.fresh (Nat.le_refl _))⟩
  exact ⟨Nat.le_trans (cutV_length xs lo hi) hz, _, (r.drop (HT.sIx xs.length 0 lo)).take (HT.sIx xs.length xs.length hi - HT.sIx xs.length 0 lo), IsTup.new _ _⟩
def rLtT (K : PySem.W.Frag) : R2 := fun x y H Q => ∃ a b ns ms, x = .ref a ∧ y = .ref b ∧ SqT K H a (ns.map V.int) ∧ SqT K H b (ms.map V.int) ∧ Q (.bl (HT.lexLt ns ms)) H
def rCatT (K : PySem.W.Frag) : R2 := fun x y H Q => ∃ a b xs ys, x = .ref a ∧ y = .ref b ∧ SqT K H a xs ∧ SqT K H b ys ∧ xs ≠ [] ∧ xs.length + ys.length ≤ sizeLine ∧
  (ys = [] → Q (.ref a) H) ∧ (ys ≠ [] → ∀ p, H p = none → Q (.ref p) (upd H p (.tup (xs ++ ys))))
theorem Vals.nil_iff {xs : List V} {us : List Value} (r : Vals xs us) : us = [] ↔ xs = [] := by
  cases r with
  | nil => simp
  | cons _ _ => simp
theorem op_catT : OpR X (binaryOp .Add) (rCatT X.K) := by
  intro pins s σ H x y v u Q I rx ry h
  obtain ⟨a, b, xs, ys, rfl, rfl, ha, hb, hx, hz, q1, q2⟩ := h
  cases rx
  cases ry
  obtain ⟨its, r1, p1, _⟩ := I.tuple ha
  obtain ⟨its2, r2, p2, _⟩ := I.tuple hb
  refine HT.cat_tup p1 p2 (fun z => hx (r1.nil_iff.mp z)) (fun z => ⟨.ref a, H, I, rfl, q1 (r2.nil_iff.mp z)⟩) (fun z => ?_) (by rw [← r1.length, ← r2.length]; exact hz)
  refine ⟨.ref s.heap.objs.size, _, I.laid (t' := s.toks) (o := .tup (xs ++ ys)) (fun b ob q => Heap.get?_push_of_some _ q) (Nat.le_refl _) ?_, rfl, q2 (fun w => z (r2.nil_iff.mpr w)) _ (I.hok.fresh (Nat.le_refl _))⟩
  exact ⟨by rw [List.length_append]; exact hz, _, r1.append r2, IsTup.new _ _⟩
end
end L2
namespace L2
open PySem PySem.Spec PyProof.Rows
def ixN (n : Nat) (i : Int) : Option Nat := if 0 ≤ i then (if i < n then some i.toNat else none) else if -(n : Int) ≤ i then some (i + n).toNat else none
def atI {α : Type} (xs : List α) (i : Int) : Option α := (ixN xs.length i).bind fun j => xs[j]?
theorem ixN_seq {n : Nat} {i : Int} {j : Nat} (h : ixN n i = some j) : seqIndex? i n = some j ∧ j < n ∧ -(n : Int) ≤ i ∧ i < n := by
  unfold ixN at h
  by_cases h0 : 0 ≤ i
  · rw [if_pos h0] at h
    by_cases h1 : i < n
    · rw [if_pos h1] at h
      have e : i.toNat = j := Option.some.inj h
      exact ⟨by rw [seqIndex_of h0 h1, e], by omega, by omega, h1⟩
    · rw [if_neg h1] at h; cases h
  · rw [if_neg h0] at h
    by_cases h1 : -(n : Int) ≤ i
    · rw [if_pos h1] at h
      have e : (i + n).toNat = j := Option.some.inj h
      exact ⟨by rw [seqIndex_neg (by omega) h1, e], by omega, h1, by omega⟩
    · rw [if_neg h1] at h; cases h
theorem atI_get {α : Type} {xs : List α} {i : Int} {v : α} (h : atI xs i = some v) : ∃ j, seqIndex? i xs.length = some j ∧ xs[j]? = some v ∧ j < xs.length ∧ -(xs.length : Int) ≤ i ∧ i < xs.length := by
  unfold atI at h
  cases e : ixN xs.length i with
  | none => rw [e] at h; cases h
  | some j =>
    rw [e] at h
    obtain ⟨h1, h2, h3, h4⟩ := ixN_seq e
    exact ⟨j, h1, h, h2, h3, h4⟩
theorem atI_nat {α : Type} {xs : List α} {j : Nat} {v : α} (h : xs[j]? = some v) : atI xs (j : Int) = some v := by
  have hj : j < xs.length := (List.getElem?_eq_some_iff.mp h).1
  have e : ixN xs.length (j : Int) = some j := by
    unfold ixN
    rw [if_pos (by omega), if_pos (by omega)]; simp
  unfold atI; rw [e]; exact h
def PlainIx (b : Expr) : Prop := ∀ o i, subscripted b false o i = operate [o, i] (getItem o i)
def IxR (X : Cx) (r : R2) : Prop :=
  ∀ (value slice : Expr) (pins : List (Addr × Obj)) (s : Shared) (σ : St) (H : Hp) (x y : V) (v u : Value) (Q : VK), Inv X pins σ H s → RelV x v → RelV y u → r x y H Q →
    subscripted slice false v u = operate [v, u] (getItem v u) → wpAny (model X.prog X.w) X.A (subscriptTail value slice v u) (EP X pins σ Q) X.xe s
def MtR (X : Cx) (id : String) (r : V → List V → Hp → VK → Prop) : Prop :=
  ∀ (pins : List (Addr × Obj)) (s : Shared) (σ : St) (H : Hp) (x : V) (xs : List V) (v : Value) (us : List Value) (Q : VK), Inv X pins σ H s → RelV x v → Vals xs us → r x xs H Q →
    wpAny (model X.prog X.w) X.A (call (.builtin id) (v :: us)) (EP X pins σ Q) X.xe s
section
variable {X : Cx} {a b : Expr} {ta tb : TE} {pos : Pos}
theorem IxR.or {r r' : R2} (h : IxR X r) (h' : IxR X r') : IxR X (fun x y H Q => r x y H Q ∨ r' x y H Q) := by
  intro value slice pins s σ H x y v u Q I rx ry q hs
  rcases q with q | q
  · exact h value slice pins s σ H x y v u Q I rx ry q hs
  · exact h' value slice pins s σ H x y v u Q I rx ry q hs
theorem MtR.or {id : String} {r r' : V → List V → Hp → VK → Prop} (h : MtR X id r) (h' : MtR X id r') : MtR X id (fun x xs H Q => r x xs H Q ∨ r' x xs H Q) := by
  intro pins s σ H x xs v us Q I rx rs q
  rcases q with q | q
  · exact h pins s σ H x xs v us Q I rx rs q
  · exact h' pins s σ H x xs v us Q I rx rs q
theorem pe_ix {r : R2} (hr : IxR X r) (ha : PE X a ta) (hb : PE X b tb) (hs : PlainIx b) : PE X (.Subscript a b pos) (tOp r ta tb) := by
  intro pins s σ H Q I h
  exact Subscript_ (binT ha hb I h fun v u s2 x y H2 I2 rx ry q => hr a b pins s2 σ H2 x y v u Q I2 rx ry q (hs _ _))
def rIxL (K : PySem.W.Frag) : R2 := fun x y H Q => ∃ p xs i v, x = .ref p ∧ y = .int i ∧ SqL K H p xs ∧ atI xs i = some v ∧ Q v H
def rIxT (K : PySem.W.Frag) : R2 := fun x y H Q => ∃ p xs i v, x = .ref p ∧ y = .int i ∧ SqT K H p xs ∧ atI xs i = some v ∧ Q v H
def rIxS : R2 := fun x y H Q => ∃ z i c, x = .str z ∧ y = .int i ∧ z.length ≤ sizeLine ∧ atI z.cps.toList i = some c ∧ Q (.str ⟨#[c]⟩) H
theorem ix_list : IxR X (rIxL X.K) := by
  intro value slice pins s σ H x y v u Q I rx ry h hs
  obtain ⟨p, xs, i, z, rfl, rfl, hq, he, q⟩ := h
  cases rx
  obtain ⟨t, rfl⟩ := ry
  obtain ⟨its, r, pl, hz⟩ := I.list hq
  obtain ⟨j, h1, h2, h3, h4, h5⟩ := atI_get he
  obtain ⟨w, ew, rw'⟩ := r.get h2
  have hl := r.length
  have hn := line63
  have fin : EP X pins σ Q w s := ⟨z, H, I, rw', q⟩
  by_cases h0 : 0 ≤ i
  · have hj : i.toNat = j := by
      rw [seqIndex_of h0 h5] at h1
      exact Option.some.inj h1
    exact item_listR pl.isList h0 (by omega) (by rw [hj]; simpa using ew) fin hs
  · have hj : (i + (its.toArray.size : Int)).toNat = j := by
      rw [seqIndex_neg (by omega) h4] at h1
      rw [List.size_toArray, ← hl]
      exact Option.some.inj h1
    exact subscriptTail_builtinR (x := w) pl.isList.typeIs slot_list_getitem.lookup
      (wpAny_getItem_list_neg (Q := fun r s' => r = w ∧ EP X pins σ Q r s') pl.isList (by omega) (by rw [List.size_toArray] <;> omega) (by omega) (by rw [hj]; simpa using ew) ⟨rfl, fin⟩) hs
theorem ix_tup : IxR X (rIxT X.K) := by
  intro value slice pins s σ H x y v u Q I rx ry h hs
  obtain ⟨p, xs, i, z, rfl, rfl, hq, he, q⟩ := h
  cases rx
  obtain ⟨t, rfl⟩ := ry
  obtain ⟨its, r, pl, hz⟩ := I.tuple hq
  obtain ⟨j, h1, h2, h3, h4, h5⟩ := atI_get he
  obtain ⟨w, ew, rw'⟩ := r.get h2
  have hl := r.length
  have hn := line63
  have fin : EP X pins σ Q w s := ⟨z, H, I, rw', q⟩
  exact subscriptTail_builtinR (x := w) pl.typeIs slot_tuple_getitem.lookup
    (getItem_tuple (j := j) (Q := fun r s' => r = w ∧ EP X pins σ Q r s') pl (by omega) (by omega) (by rw [List.size_toArray, ← hl]; exact h1) (by simpa using ew) ⟨rfl, fin⟩) hs
theorem ix_str : IxR X rIxS := by
  intro value slice pins s σ H x y v u Q I rx ry h hs
  obtain ⟨z, i, c, rfl, rfl, hz, he, q⟩ := h
  obtain ⟨t, rfl⟩ := rx
  obtain ⟨t', rfl⟩ := ry
  obtain ⟨j, h1, h2, h3, h4, h5⟩ := atI_get he
  have hl : z.cps.toList.length = z.length := by simp [Str.length]
  rw [hl] at h1 h4 h5
  have hn := line63
  exact tail_any (typeIs_str s z t) slot_str_getitem.lookup (getItem_str (c := c) (by
    have e1 : decide (i < -(2 ^ 63 : Int)) = false := decide_eq_false (by omega)
    have e2 : decide (i ≥ 2 ^ 63) = false := decide_eq_false (by omega)
    rw [e1, e2, Bool.or_false]) (by rw [h1]; simpa using h2) ⟨.str ⟨#[c]⟩, H, I.tok _, ⟨_, rfl⟩, q⟩) hs
def rIx (K : PySem.W.Frag) : R2 := fun x y H Q => rIxL K x y H Q ∨ rIxT K x y H Q ∨ rIxS x y H Q
theorem Inv.lst {pins : List (Addr × Obj)} {σ : St} {H : Hp} {s : Shared} {p : Addr} {xs : List V} (I : Inv X pins σ H s) (h : H p = some (.lst xs)) :
    ∃ (its : List Value) (n : Nat), Vals xs its ∧ s.heap.get? p = some { cls := .type "list", data := .seq its.toArray n } ∧ xs.length ≤ sizeLine := by
  obtain ⟨z, its, n, r, e⟩ := I.hok p _ h
  exact ⟨its, n, r, e, z⟩
def rSetL : V → V → V → Hp → (Hp → Prop) → Prop := fun o i v H Q => ∃ p xs k j, o = .ref p ∧ i = .int k ∧ H p = some (.lst xs) ∧ ixN xs.length k = some j ∧ Q (upd H p (.lst (xs.set j v)))
def rSlL (K : PySem.W.Frag) : V → Option Int → Option Int → Hp → VK → Prop := fun x lo hi H Q => ∃ a xs, x = .ref a ∧ SqL K H a xs ∧ ∀ p, H p = none → Q (.ref p) (upd H p (.lst (cutV xs lo hi)))
def flatV : V → Bool
  | .non => true
  | .bl _ => true
  | .int _ => true
  | .str _ => true
  | _ => false
def eqV : V → V → Bool
  | .non, .non => true
  | .bl a, .bl b => a == b
  | .bl a, .int b => (if a then 1 else 0) == b
  | .int a, .bl b => a == (if b then 1 else 0)
  | .int a, .int b => a == b
  | .str a, .str b => a == b
  | _, _ => false
theorem eqAt_V {A : Around} {s : Shared} {y x : V} {u v : Value} (ry : RelV y u) (rx : RelV x v) (fy : flatV y = true) (fx : flatV x = true) : SeqAt.EqAt A s u v (eqV y x) := by
  cases y with
  | non =>
    cases ry
    cases x with
    | non => cases rx; exact SeqAt.EqAt.same _
    | bl b => cases rx; exact SeqAt.EqAt.none_bool b
    | int b => obtain ⟨t, rfl⟩ := rx; exact SeqAt.EqAt.none_int b t
    | str b => obtain ⟨t, rfl⟩ := rx; exact SeqAt.EqAt.none_str b t
    | _ => exact absurd (show false = true from fx) Bool.false_ne_true
  | bl a =>
    cases ry
    cases x with
    | non => cases rx; exact SeqAt.EqAt.bool_none a
    | bl b => cases rx; exact SeqAt.EqAt.bool_bool a b
    | int b => obtain ⟨t, rfl⟩ := rx; exact SeqAt.EqAt.bool_int a b t
    | str b => obtain ⟨t, rfl⟩ := rx; exact SeqAt.EqAt.bool_str a b t
    | _ => exact absurd (show false = true from fx) Bool.false_ne_true
  | int a =>
    obtain ⟨t', rfl⟩ := ry
    cases x with
    | non => cases rx; exact SeqAt.EqAt.int_none a t'
    | bl b => cases rx; exact SeqAt.EqAt.int_bool a t' b
    | int b => obtain ⟨t, rfl⟩ := rx; exact SeqAt.EqAt.int_int a t' b t
    | str b => obtain ⟨t, rfl⟩ := rx; exact SeqAt.EqAt.int_str a t' b t
    | _ => exact absurd (show false = true from fx) Bool.false_ne_true
  | str a =>
    obtain ⟨t', rfl⟩ := ry
    cases x with
    | non => cases rx; exact SeqAt.EqAt.str_none a t'
    | bl b => cases rx; exact SeqAt.EqAt.str_bool a t' b
    | int b => obtain ⟨t, rfl⟩ := rx; exact SeqAt.EqAt.str_int a t' b t
    | str b => obtain ⟨t, rfl⟩ := rx; exact SeqAt.EqAt.str_str a t' b t
    | _ => exact absurd (show false = true from fx) Bool.false_ne_true
  | _ => exact absurd (show false = true from fy) Bool.false_ne_true
def eqU (x : V) (u : Value) : Bool := match u with
  | .none => eqV .non x
  | .bool b => eqV (.bl b) x
  | .int i _ => eqV (.int i) x
  | .str z _ => eqV (.str z) x
  | _ => false
theorem eqU_of {x y : V} {u : Value} (r : RelV y u) (f : flatV y = true) : eqU x u = eqV y x := by
  cases y with
  | non => cases r; rfl
  | bl b => cases r; rfl
  | int i => obtain ⟨t, rfl⟩ := r; rfl
  | str z => obtain ⟨t, rfl⟩ := r; rfl
  | _ => exact absurd (show false = true from f) Bool.false_ne_true
theorem any_eqU {x : V} : ∀ {xs : List V} {us : List Value}, Vals xs us → xs.all flatV = true → us.any (eqU x) = xs.any fun y => eqV y x
  | _, _, .nil, _ => rfl
  | y :: xs, u :: us, .cons r t, f => by
    rw [List.all_cons, Bool.and_eq_true] at f
    rw [List.any_cons, List.any_cons, eqU_of r f.1, any_eqU t f.2]
theorem mem_eqAt {A : Around} {s : Shared} {x : V} {v : Value} (rx : RelV x v) (fx : flatV x = true) : ∀ {xs : List V} {us : List Value}, Vals xs us → xs.all flatV = true → ∀ u ∈ us, SeqAt.EqAt A s u v (eqU x u)
  | _, _, .nil, _ => fun u hu => by cases hu
  | y :: xs, u :: us, .cons r t, f => fun u' hu => by
    rw [List.all_cons, Bool.and_eq_true] at f
    rcases List.mem_cons.mp hu with rfl | hu
    · rw [eqU_of r f.1]; exact eqAt_V r rx f.1 fx
    · exact mem_eqAt rx fx t f.2 u' hu
def inV (x : V) (xs : List V) : Bool := xs.any fun y => eqV y x
def rIn (K : PySem.W.Frag) (neg : Bool) : R2 := fun x y H Q => ∃ p xs, y = .ref p ∧ (SqL K H p xs ∨ SqT K H p xs) ∧ flatV x = true ∧ xs.all flatV = true ∧ Q (.bl (if neg then !inV x xs else inV x xs)) H
theorem op_in_seq : OpR X (compareOp .In) (rIn X.K false) := by
  intro pins s σ H x y v u Q I rx ry h
  obtain ⟨p, xs, rfl, hq, fx, fs, q⟩ := h
  cases ry
  rcases hq with hq | hq
  · obtain ⟨its, r, pl, hz⟩ := I.list hq
    refine SeqAt.in_listAt (eqU x) pl.isList (fun w hw => mem_eqAt rx fx r fs w (by simpa using hw)) ⟨.bl _, H, I, rfl, ?_⟩
    rw [show its.toArray.any (eqU x) = its.any (eqU x) by simp, any_eqU r fs]
    exact q
  · obtain ⟨its, r, pl, hz⟩ := I.tuple hq
    refine SeqAt.in_tupleAt (eqU x) pl (fun w hw => mem_eqAt rx fx r fs w (by simpa using hw)) ⟨.bl _, H, I, rfl, ?_⟩
    rw [show its.toArray.any (eqU x) = its.any (eqU x) by simp, any_eqU r fs]
    exact q
theorem op_notIn_seq : OpR X (compareOp .NotIn) (rIn X.K true) := by
  intro pins s σ H x y v u Q I rx ry h
  obtain ⟨p, xs, rfl, hq, fx, fs, q⟩ := h
  cases ry
  rcases hq with hq | hq
  · obtain ⟨its, r, pl, hz⟩ := I.list hq
    refine SeqAt.notIn_listAt (eqU x) pl.isList (fun w hw => mem_eqAt rx fx r fs w (by simpa using hw)) ⟨.bl _, H, I, rfl, ?_⟩
    rw [show its.toArray.any (eqU x) = its.any (eqU x) by simp, any_eqU r fs]
    exact q
  · obtain ⟨its, r, pl, hz⟩ := I.tuple hq
    refine SeqAt.notIn_tupleAt (eqU x) pl (fun w hw => mem_eqAt rx fx r fs w (by simpa using hw)) ⟨.bl _, H, I, rfl, ?_⟩
    rw [show its.toArray.any (eqU x) = its.any (eqU x) by simp, any_eqU r fs]
    exact q
theorem op_notIn_str : OpR X (compareOp .NotIn) (fun x y H Q => ∃ i j, x = .str i ∧ y = .str j ∧ Q (.bl (!(!(Builtin.Str.occurrences j i 0 j.length 1).isEmpty))) H) := by
  intro pins s σ H x y v u Q I rx ry h
  obtain ⟨i, j, rfl, rfl, q⟩ := h
  obtain ⟨t, rfl⟩ := rx
  obtain ⟨t', rfl⟩ := ry
  exact notIn_str ⟨.bl _, H, I, rfl, q⟩
theorem call_len_seq : CallR X (.builtin "len") (fun xs H Q => ∃ p ys, xs = [.ref p] ∧ (SqL X.K H p ys ∨ SqT X.K H p ys) ∧ Q (.int ys.length) H) := by
  intro pins s σ H xs us Q I r h
  obtain ⟨p, ys, rfl, hq, q⟩ := h
  obtain ⟨u, rfl, rx⟩ := vals1 r
  cases rx
  have hn := line63
  rcases hq with hq | hq
  · obtain ⟨its, r', pl, hz⟩ := I.list hq
    have hlen := r'.length
    exact Calls.call_len_list pl.isList (by simp only [List.size_toArray] <;> omega) ⟨.int ys.length, H, I.tok _, ⟨s.toks + 1, by rw [List.size_toArray, hlen]⟩, q⟩
  · obtain ⟨its, r', pl, hz⟩ := I.tuple hq
    have hlen := r'.length
    exact len_tuple pl (by simp only [List.size_toArray] <;> omega) ⟨.int ys.length, H, I.tok _, ⟨s.toks + 1, by rw [List.size_toArray, hlen]⟩, q⟩
theorem call_len_str : CallR X (.builtin "len") (fun xs H Q => ∃ z, xs = [.str z] ∧ z.length ≤ sizeLine ∧ Q (.int z.length) H) := by
  intro pins s σ H xs us Q I r h
  obtain ⟨z, rfl, hz, q⟩ := h
  obtain ⟨u, rfl, t, rfl⟩ := vals1 r
  have hn := line63
  exact len_str (by omega) ⟨.int z.length, H, I.tok _, ⟨_, rfl⟩, q⟩
theorem CallR.or {f : Value} {r r' : List V → Hp → VK → Prop} (h : CallR X f r) (h' : CallR X f r') : CallR X f (fun xs H Q => r xs H Q ∨ r' xs H Q) := by
  intro pins s σ H xs us Q I rs q
  rcases q with q | q
  · exact h pins s σ H xs us Q I rs q
  · exact h' pins s σ H xs us Q I rs q
theorem call_list_of : CallR X (.type "list") (fun xs H Q => ∃ p ys, xs = [.ref p] ∧ (SqL X.K H p ys ∨ SqT X.K H p ys) ∧ ∀ l, H l = none → Q (.ref l) (upd H l (.lst ys))) := by
  intro pins s σ H xs us Q I r h
  obtain ⟨p, ys, rfl, hq, q⟩ := h
  obtain ⟨u, rfl, rx⟩ := vals1 r
  cases rx
  have fin : ∀ (its : List Value), Vals ys its → ys.length ≤ sizeLine → ∀ (h' : Heap) (c' : Nat), (∀ b o', s.heap.get? b = some o' → h'.get? b = some o') →
      h'.get? s.heap.objs.size = some { cls := .type "list", dict := none, data := .seq its.toArray c', slots := #[] } → EP X pins σ Q (.ref s.heap.objs.size) { s with heap := h' } := fun its r' hz h' c' kp e =>
    ⟨.ref s.heap.objs.size, _, I.laid (t' := s.toks) kp (Nat.le_refl _) (show ObjOk X.prog X.w _ h' _ (.lst ys) from ⟨hz, its, c', r', e⟩), rfl, q _ (I.hok.fresh (Nat.le_refl _))⟩
  rcases hq with hq | hq
  · obtain ⟨its, r', pl, hz⟩ := I.list hq
    have hlen := r'.length
    obtain ⟨o, ho, hc, n, hd⟩ := pl.isList
    exact call_list_seq p (.inl rfl) ho hc hd (fun h' c' kp e => fin its r' hz h' c' kp e) (by simp only [List.size_toArray] <;> omega)
  · obtain ⟨its, r', pl, hz⟩ := I.tuple hq
    have hlen := r'.length
    obtain ⟨o, ho, hc, n, hd⟩ := pl
    exact call_list_seq p (.inr rfl) ho hc hd (fun h' c' kp e => fin its r' hz h' c' kp e) (by simp only [List.size_toArray] <;> omega)
theorem call_tuple_of : CallR X (.type "tuple") (fun xs H Q => ∃ p ys, xs = [.ref p] ∧ ((SqL X.K H p ys ∧ ∀ l, H l = none → Q (.ref l) (upd H l (.tup ys))) ∨ (SqT X.K H p ys ∧ Q (.ref p) H))) := by
  intro pins s σ H xs us Q I r h
  obtain ⟨p, ys, rfl, h⟩ := h
  obtain ⟨u, rfl, rx⟩ := vals1 r
  cases rx
  rcases h with ⟨hq, q⟩ | ⟨hq, q⟩
  · obtain ⟨its, r', pl, hz⟩ := I.list hq
    have hlen := r'.length
    refine call_tuple_list pl.isList (fun h' kp => ?_) (by simp only [List.size_toArray] <;> omega)
    have I1 : Inv X pins σ H { s with heap := h' } := I.kept (t' := s.toks) kp
    have I2 : Inv X pins σ (upd H h'.objs.size (.tup ys)) { s with heap := h'.push { cls := .type "tuple", data := .seq its.toArray } } :=
      I1.laid (t' := s.toks) (fun b o e => Heap.get?_push_of_some _ e) (Nat.le_refl _) (show ObjOk X.prog X.w _ _ _ (.tup ys) from ⟨hz, its, r', IsTup.new _ _⟩)
    exact ⟨.ref h'.objs.size, _, I2, rfl, q _ (I1.hok.fresh (Nat.le_refl _))⟩
  · obtain ⟨its, r', pl, hz⟩ := I.tuple hq
    exact call_tuple_same pl ⟨.ref p, H, I, rfl, q⟩
def tyV (K : PySem.W.Frag) (T : String) (x : V) (H : Hp) : Prop := match x with
  | .str _ => T = "str"
  | .int _ => T = "int"
  | .ref p => (T = "list" ∧ ∃ xs, SqL K H p xs) ∨ (T = "tuple" ∧ ∃ o, K.lookup p = some o ∧ o.cls = .type "tuple" ∧ o.dict = none) ∨
      (T = "dict" ∧ ((∃ kvs, H p = some (.dK kvs)) ∨ ∃ kvs, H p = some (.dT kvs))) ∨ (T = "set" ∧ ∃ S n, H p = some (.set S n))
  | _ => False
theorem tyV_is {pins : List (Addr × Obj)} {σ : St} {H : Hp} {s : Shared} {T : String} {x : V} {v : Value} (I : Inv X pins σ H s) (r : RelV x v) (ty : tyV X.K T x H) :
    s.TypeIs v T ∧ ∀ a, v = .ref a → ∃ ob, s.heap.get? a = some ob ∧ ob.dict = none := by
  cases x with
  | str z =>
    obtain ⟨t, rfl⟩ := r
    cases (show T = "str" from ty)
    exact ⟨typeIs_str s z t, fun _ e => nomatch e⟩
  | int i =>
    obtain ⟨t, rfl⟩ := r
    cases (show T = "int" from ty)
    exact ⟨typeIs_int s i t, fun _ e => nomatch e⟩
  | ref p =>
    cases r
    rcases ty with ⟨rfl, xs, hq⟩ | ⟨rfl, o, hk, hc, hd⟩ | ⟨rfl, hk⟩ | ⟨rfl, S, n, hk⟩
    · obtain ⟨its, _, pl, _⟩ := I.list hq
      refine ⟨pl.isList.typeIs, fun a e => ?_⟩
      cases e
      obtain ⟨o, n, e, c, hd, _⟩ := pl
      exact ⟨o, e, hd⟩
    · refine ⟨⟨o, I.kIn p o hk, hc⟩, fun a e => ?_⟩
      cases e
      exact ⟨o, I.kIn _ o hk, hd⟩
    · have z : ∃ o, s.heap.get? p = some o ∧ o.ExactDict := by
        rcases hk with ⟨kvs, hk⟩ | ⟨kvs, hk⟩
        · obtain ⟨_, _, _, _, o, _, _, e, ex, _⟩ := I.hok p _ hk
          exact ⟨o, e, ex⟩
        · obtain ⟨_, _, _, _, o, _, _, e, ex, _⟩ := I.hok p _ hk
          exact ⟨o, e, ex⟩
      obtain ⟨o, e, ex⟩ := z
      refine ⟨⟨o, e, ex.1⟩, fun a e2 => ?_⟩
      cases e2
      exact ⟨o, e, ex.2.1⟩
    · obtain ⟨o, _, _, _, e, ex, _⟩ := I.hok p _ hk
      refine ⟨⟨o, e, ex.1⟩, fun a e2 => ?_⟩
      cases e2
      exact ⟨o, e, ex.2.1⟩
  | _ => exact False.elim ty
def tBM0 (K : PySem.W.Frag) (T : String) (r : V → List V → Hp → VK → Prop) (to : TE) : TE := fun σ H Q => to σ H fun x H1 => tyV K T x H1 ∧ r x [] H1 Q
def tBM (K : PySem.W.Frag) (T : String) (r : V → List V → Hp → VK → Prop) (to : TE) (t : TA) : TE := fun σ H Q => to σ H fun x H1 => tyV K T x H1 ∧ t σ H1 fun xs H2 => r x xs H2 Q
variable {o e : Expr} {es : List Expr} {to : TE} {t : TA} {name : Str} {apos cpos : Pos} {T id : String} {r : V → List V → Hp → VK → Prop}
theorem pe_bm (pa : PlainAttrs T) (slot : Slot T name id) (hty : typeOf (.builtin id) = pure (.type "method_descriptor")) (hm : MtR X id r) (ho : PE X o to) (ha : PA X (e :: es) t)
    (hbase : attributeBase o name X.env (eval o X.env) = eval o X.env := by rfl)
    (hfew : ((backTo cpos (starEach (e :: es) X.env)).all (fun x => !x.1) && (backToKw cpos (keywordEach [] X.env)).all (fun x => x.1.isSome)
      && decide ((e :: es).length + ([] : List Keyword).length + (if ([] : List Keyword).isEmpty then 0 else 1) < 30)) = true := by rfl)
    (hline : (apos.endLine == cpos.line) = true := by rfl) (hs : starEach (e :: es) X.env = (false, eval e X.env) :: starEach es X.env := by rfl) (hplain : (backTo cpos (starEach es X.env)).any (·.1) = false := by rfl) :
    PE X (.Call (.Attribute o name apos) (e :: es) [] cpos) (tBM X.K T r to t) := by
  intro pins s σ H Q I h
  refine wpAny_Call_method_late hbase hfew hline rfl (thn (ho pins s σ H _ I h) fun v s1 ⟨x, H1, I1, r1, ty, q1⟩ => ?_)
  obtain ⟨h1, h2⟩ := tyV_is I1 r1 ty
  refine ⟨T, id, pa, slot, hty, h1, h2, ?_⟩
  have hA := ha cpos pins s1 σ H1 _ I1 q1
  rw [hs] at hA ⊢
  refine Calls.callWith_builtin (by show (false || (backTo cpos (starEach es X.env)).any (·.1)) = false; rw [hplain] <;> rfl) (Calls.evalArgs_plain ?_)
  exact thn hA fun us s2 ⟨vs, H2, I2, r2, q2⟩ => hm pins s2 σ H2 x vs v us Q I2 r1 r2 q2
end
end L2
namespace L2
open PySem PySem.Spec PyProof.Rows
def MtM (X : Cx) (id : String) (r : V → List V → Hp → VK → Prop) : Prop :=
  ∀ (pins : List (Addr × Obj)) (s : Shared) (σ : St) (H : Hp) (x : V) (xs : List V) (v : Value) (us : List Value) (Q : VK), Inv X pins σ H s → RelV x v → Vals xs us → r x xs H Q →
    wpAny (model X.prog X.w) X.A (call (.builtin id) (v :: us)) (EP X pins σ Q) X.xe s
theorem Vals.one : ∀ {x : V} {us : List Value}, Vals [x] us → ∃ u, us = [u] ∧ RelV x u
  | _, _, .cons r .nil => ⟨_, rfl, r⟩
theorem Vals.zero : ∀ {us : List Value}, Vals [] us → us = []
  | _, .nil => rfl
theorem Vals.dropLast {xs : List V} {us : List Value} (h : Vals xs us) : Vals xs.dropLast us.dropLast := by
  induction h with
  | nil => exact .nil
  | cons r t ih =>
    cases t with
    | nil => exact .nil
    | cons q t' => exact .cons r ih
theorem Vals.eraseIdx : ∀ {xs : List V} {us : List Value} (i : Nat), Vals xs us → Vals (xs.eraseIdx i) (us.eraseIdx i)
  | _, _, _, .nil => .nil
  | _, _, 0, .cons _ t => t
  | _, _, i + 1, .cons r t => .cons r (Vals.eraseIdx i t)
theorem Vals.reverse {xs : List V} {us : List Value} (h : Vals xs us) : Vals xs.reverse us.reverse := by
  induction h with
  | nil => exact .nil
  | cons r t ih => rw [List.reverse_cons, List.reverse_cons]; exact Vals.append ih (.cons r .nil)
theorem Vals.rep {xs : List V} {us : List Value} (h : Vals xs us) : ∀ k : Nat, Vals (List.replicate k xs).flatten (List.replicate k us).flatten
  | 0 => .nil
  | k + 1 => by
    rw [List.replicate_succ, List.replicate_succ, List.flatten_cons, List.flatten_cons]
    exact Vals.append h (Vals.rep h k)
section
variable {X : Cx} {pins : List (Addr × Obj)} {σ : St} {H : Hp} {s : Shared} {l b : Addr} {xs ys zs : List V}
theorem Inv.lset {its its' : List Value} {n : Nat} {f : Array Value → Array Value} {t' : Nat} (I : Inv X pins σ H s) (hH : H l = some (.lst xs))
    (e : s.heap.get? l = some { cls := .type "list", data := .seq its.toArray n }) (hf : f its.toArray = its'.toArray) (hv : Vals ys its') (hz : ys.length ≤ sizeLine) :
    Inv X pins σ (upd H l (.lst ys)) { s with heap := s.heap.update l (Obj.mapSeq f), toks := t' } := by
  have q := PySem.IsL.update e f
  rw [hf] at q
  refine I.write (x := l) (e := l) (by rw [hH]; exact trivial) (.inl rfl) (fun b' u hb hu => (Heap.get?_update_other s.heap (Obj.mapSeq f) (Ne.symm hb)).trans hu) ⟨_, q⟩ ?_
  exact ⟨hz, its', _, hv, q⟩
theorem Inv.lnew {its : List Value} {t' : Nat} (I : Inv X pins σ H s) (hv : Vals ys its) (hz : ys.length ≤ sizeLine) :
    Inv X pins σ (upd H s.heap.objs.size (.lst ys)) { s with heap := s.heap.push { cls := .type "list", data := .seq its.toArray }, toks := t' } :=
  I.laid (fun _ _ q => Heap.get?_push_of_some _ q) (Nat.le_refl _) ⟨hz, its, 0, hv, Heap.get?_push_size _ rfl⟩
theorem Inv.fresh (I : Inv X pins σ H s) : H s.heap.objs.size = none := I.hok.fresh (Nat.le_refl _)
theorem Inv.lstM (I : Inv X pins σ H s) (hH : H l = some (.lst xs)) : xs.length ≤ sizeLine ∧ ∃ (its : List Value) (n : Nat), Vals xs its ∧ xs.length = its.length ∧ s.heap.get? l = some { cls := .type "list", data := .seq its.toArray n } := by
  obtain ⟨z, its, n, r, e⟩ := I.hok l _ hH
  exact ⟨z, its, n, r, r.length, e⟩
end
section
variable {X : Cx}
def rAppend : V → List V → Hp → VK → Prop := fun x vs H Q => ∃ l xs y, x = .ref l ∧ vs = [y] ∧ H l = some (.lst xs) ∧ xs.length < sizeLine ∧ Q .non (upd H l (.lst (xs ++ [y])))
theorem mt_append : MtM X "list.append" rAppend := by
  intro pins s σ H x vs v us Q I rx rv h
  obtain ⟨l, xs, y, rfl, rfl, hH, hz, q⟩ := h
  cases rx
  obtain ⟨u, rfl, ru⟩ := rv.one
  obtain ⟨z, its, n, r, hl, e⟩ := I.lstM hH
  refine call_meets F.slot_list_append ⟨_, e, rfl⟩ F.entry_list_append (F.args_list_append_2 _ _) (PySem.list_append l its.toArray n u (by rw [List.size_toArray]; omega)) ⟨e, ?_⟩
  refine ⟨.non, _, I.lset (its' := its ++ [u]) hH e (by simp) (r.append (.cons ru .nil)) ?_, rfl, q⟩
  rw [List.length_append, List.length_singleton]
  omega
def rExtend : V → List V → Hp → VK → Prop := fun x vs H Q => ∃ l b xs zs, x = .ref l ∧ vs = [.ref b] ∧ H l = some (.lst xs) ∧ H b = some (.lst zs) ∧ xs.length + zs.length ≤ sizeLine ∧ Q .non (upd H l (.lst (xs ++ zs)))
def rPop : V → List V → Hp → VK → Prop := fun x vs H Q => ∃ l xs y, x = .ref l ∧ vs = [] ∧ H l = some (.lst xs) ∧ xs[xs.length - 1]? = some y ∧ Q y (upd H l (.lst xs.dropLast))
def rPopAt : V → List V → Hp → VK → Prop := fun x vs H Q => ∃ l xs i k y, x = .ref l ∧ vs = [.int i] ∧ H l = some (.lst xs) ∧ -(2 ^ 63) ≤ i ∧ i < 2 ^ 63 ∧ seqIndex? i xs.length = some k ∧ xs[k]? = some y ∧ Q y (upd H l (.lst (xs.eraseIdx k)))
def rReverse : V → List V → Hp → VK → Prop := fun x vs H Q => ∃ l xs, x = .ref l ∧ vs = [] ∧ H l = some (.lst xs) ∧ Q .non (upd H l (.lst xs.reverse))
def rClear : V → List V → Hp → VK → Prop := fun x vs H Q => ∃ l xs, x = .ref l ∧ vs = [] ∧ H l = some (.lst xs) ∧ Q .non (upd H l (.lst []))
def rCat : R2 := fun x y H Q => ∃ l b xs zs, x = .ref l ∧ y = .ref b ∧ H l = some (.lst xs) ∧ H b = some (.lst zs) ∧ xs.length + zs.length ≤ sizeLine ∧ ∀ p, H p = none → Q (.ref p) (upd H p (.lst (xs ++ zs)))
theorem op_cat : OpR X (binaryOp .Add) rCat := by
  intro pins s σ H x y v u Q I rx ry h
  obtain ⟨l, b, xs, zs, rfl, rfl, hH, hB, hz, q⟩ := h
  cases rx
  cases ry
  obtain ⟨z, its, n, r, hl, e⟩ := I.lstM hH
  obtain ⟨z2, its2, n2, r2, hl2, e2⟩ := I.lstM hB
  refine PySem.P.add_list e e2 ?_ (by rw [List.size_toArray, List.size_toArray]; omega)
  have ea : its.toArray ++ its2.toArray = (its ++ its2).toArray := by simp
  rw [ea]
  exact ⟨.ref _, _, I.lnew (t' := s.toks) (r.append r2) (by rw [List.length_append]; omega), rfl, q _ I.fresh⟩
def rRep : R2 := fun x y H Q => ∃ l k xs, x = .ref l ∧ y = .int k ∧ H l = some (.lst xs) ∧ -(2 ^ 63) ≤ k ∧ k < 2 ^ 63 ∧ xs.length * k.toNat ≤ sizeLine ∧
  ∀ p, H p = none → Q (.ref p) (upd H p (.lst (List.replicate k.toNat xs).flatten))
end
section
variable {prog : Program} {w : World} {A : Around} {E : Value → Shared → Prop} {s : Shared}
end
section
variable {X : Cx}
end
end L2
namespace L2
open PySem PySem.Spec PyProof.Rows
section
variable {κ : Type} [DecidableEq κ]
def valV (kvs : List (κ × V)) (k : κ) : Option V := (kvs.find? fun kv => decide (kv.1 = k)).map (·.2)
def putK (kvs : List (κ × V)) (k : κ) (v : V) : List (κ × V) :=
  if (kvs.any fun kv => decide (kv.1 = k)) = true then kvs.map (fun kv => if kv.1 = k then (kv.1, v) else kv) else kvs ++ [(k, v)]
def dropK (kvs : List (κ × V)) (k : κ) : List (κ × V) := kvs.filter fun kv => decide (kv.1 ≠ k)
theorem valV_pos {p : κ × V} {r : List (κ × V)} {k : κ} (e : p.1 = k) : valV (p :: r) k = some p.2 := by simp [valV, List.find?_cons, e]
theorem valV_neg {p : κ × V} {r : List (κ × V)} {k : κ} (e : ¬ p.1 = k) : valV (p :: r) k = valV r k := by simp [valV, List.find?_cons, e]
theorem RelO.getD {o : Option V} {u : Option Value} {d : V} {d' : Value} (r : RelO o u) (rd : RelV d d') : RelV (o.getD d) (u.getD d') := by
  cases o with
  | none => cases u with
    | none => exact rd
    | some _ => exact (show False from r).elim
  | some _ => cases u with
    | none => exact (show False from r).elim
    | some _ => exact r
theorem KV.val {kvs : List (κ × V)} {vs : List (κ × Value)} (r : KV kvs vs) (k : κ) : RelO (valV kvs k) (valueAt vs k) := by
  unfold KV at r
  induction r with
  | nil => exact True.intro
  | @cons p q ps qs h t ih =>
    obtain ⟨h1, h2⟩ := h
    by_cases e : p.1 = k
    · have e' : q.1 = k := h1.symm.trans e
      have b : valueAt (q :: qs) k = some q.2 := by simp [valueAt, List.find?_cons, e']
      rw [valV_pos e, b]; exact h2
    · have e' : ¬ q.1 = k := fun z => e (h1.trans z)
      have b : valueAt (q :: qs) k = valueAt qs k := by simp [valueAt, List.find?_cons, e']
      rw [valV_neg e, b]; exact ih
theorem KV.any {kvs : List (κ × V)} {vs : List (κ × Value)} (r : KV kvs vs) (k : κ) : (kvs.any fun kv => decide (kv.1 = k)) = vs.any fun kv => decide (kv.1 = k) := by
  unfold KV at r
  induction r with
  | nil => rfl
  | cons h t ih => rw [List.any_cons, List.any_cons, ih, h.1]
theorem KV.drop {kvs : List (κ × V)} {vs : List (κ × Value)} (r : KV kvs vs) (k : κ) : KV (dropK kvs k) (without vs k) := by
  unfold KV at r ⊢
  unfold dropK without
  induction r with
  | nil => exact .nil
  | @cons p q ps qs h t ih =>
    obtain ⟨h1, h2⟩ := h
    rw [List.filter_cons, List.filter_cons]
    by_cases e : p.1 = k
    · have a : ¬ decide (p.1 ≠ k) = true := by simp [e]
      have b : ¬ decide (q.1 ≠ k) = true := by simp [h1.symm.trans e]
      rw [if_neg a, if_neg b]; exact ih
    · have e' : ¬ q.1 = k := fun z => e (h1.trans z)
      have a : decide (p.1 ≠ k) = true := by simp [e]
      have b : decide (q.1 ≠ k) = true := by simp [e']
      rw [if_pos a, if_pos b]; exact .cons ⟨h1, h2⟩ ih
theorem KV.keys {kvs : List (κ × V)} {vs : List (κ × Value)} (r : KV kvs vs) : kvs.map (·.1) = vs.map (·.1) := by
  unfold KV at r
  induction r with
  | nil => rfl
  | cons h t ih => rw [List.map_cons, List.map_cons, ih, h.1]
theorem KV.length {kvs : List (κ × V)} {vs : List (κ × Value)} (r : KV kvs vs) : kvs.length = vs.length := Paired.length r
end
abbrev KT (H : Hp) : List (List TKey × V) → List (List TKey × Addr × Value) → Prop := Paired fun p q => p.1 = q.1 ∧ H q.2.1 = some (.tup (p.1.map tkV)) ∧ RelV p.2 q.2.2
theorem KT.val {H : Hp} {kvs : List (List TKey × V)} {xs : List (List TKey × Addr × Value)} (r : KT H kvs xs) (k : List TKey) : RelO (valV kvs k) ((atKey xs k).map (·.2)) := by
  induction r with
  | nil => exact True.intro
  | @cons p q ps qs h t ih =>
    obtain ⟨h1, _, h2⟩ := h
    by_cases e : p.1 = k
    · have e' : q.1 = k := h1.symm.trans e
      have b : atKey (q :: qs) k = some q.2 := by simp [atKey, List.find?_cons, e']
      rw [valV_pos e, b]; exact h2
    · have e' : ¬ q.1 = k := fun z => e (h1.trans z)
      have b : atKey (q :: qs) k = atKey qs k := by simp [atKey, List.find?_cons, e']
      rw [valV_neg e, b]; exact ih
theorem KT.keeps {H H' : Hp} {kvs : List (List TKey × V)} {xs : List (List TKey × Addr × Value)} (r : KT H kvs xs) (ht : ∀ b ys, H b = some (.tup ys) → H' b = some (.tup ys)) : KT H' kvs xs :=
  Paired.mapP r fun _ _ z => ⟨z.1, ht _ _ z.2.1, z.2.2⟩
section
variable {P : Program} {w : World} {H : Hp} {h : Heap} {a : Addr}
end
def DGet (H : Hp) (a : Addr) (y : V) (r : Option V) : Prop :=
  (∃ kvs k, Rd H a (.dK kvs) ∧ y = kV k ∧ r = valV kvs k) ∨ ∃ kvs k b, Rd H a (.dT kvs) ∧ y = .ref b ∧ H b = some (.tup (k.map tkV)) ∧ r = valV kvs k
def DPut (H : Hp) (a : Addr) (y v : V) (H' : Hp) : Prop :=
  (∃ kvs k, H a = some (.dK kvs) ∧ y = kV k ∧ kvs.length < sizeLine ∧ H' = upd H a (.dK (putK kvs k v))) ∨
  ∃ kvs k b, H a = some (.dT kvs) ∧ y = .ref b ∧ H b = some (.tup (k.map tkV)) ∧ kvs.length < sizeLine ∧ H' = upd H a (.dT (putK kvs k v))
theorem DGet.k {H : Hp} {a : Addr} {kvs : List (Key × V)} {k : Key} (e : H a = some (.dK kvs)) : DGet H a (kV k) (valV kvs k) := .inl ⟨kvs, k, .inl e, rfl, rfl⟩
theorem DGet.t {H : Hp} {a b : Addr} {kvs : List (List TKey × V)} {k : List TKey} (e : H a = some (.dT kvs)) (eb : H b = some (.tup (k.map tkV))) : DGet H a (.ref b) (valV kvs k) := .inr ⟨kvs, k, b, .inl e, rfl, eb, rfl⟩
theorem DPut.k {H : Hp} {a : Addr} {kvs : List (Key × V)} {k : Key} {v : V} (e : H a = some (.dK kvs)) (hl : kvs.length < sizeLine) : DPut H a (kV k) v (upd H a (.dK (putK kvs k v))) := .inl ⟨kvs, k, e, rfl, hl, rfl⟩
theorem DPut.t {H : Hp} {a b : Addr} {kvs : List (List TKey × V)} {k : List TKey} {v : V} (e : H a = some (.dT kvs)) (eb : H b = some (.tup (k.map tkV))) (hl : kvs.length < sizeLine) :
    DPut H a (.ref b) v (upd H a (.dT (putK kvs k v))) := .inr ⟨kvs, k, b, e, rfl, eb, hl, rfl⟩
section
variable {X : Cx} {pins : List (Addr × Obj)} {σ : St} {H : Hp} {s : Shared} {a : Addr} {y v : V} {u r : Value} {o : Option V} {A : Around} {E : Value → Shared → Prop}
end
section
variable {X : Cx} {pins : List (Addr × Obj)} {σ : St} {H : Hp} {s : Shared} {a : Addr} {kvs : List (Key × V)} {k : Key} {u : Value} {A : Around} {E : Value → Shared → Prop}
end
def NoSl (i : Expr) : Prop := ∀ ov iv, subscripted i false ov iv = operate [ov, iv] (getItem ov iv)
def tDGet (td ty : TE) : TE := fun σ H Q => td σ H fun x H1 => ty σ H1 fun y H2 => ∃ a v, x = .ref a ∧ DGet H2 a y (some v) ∧ Q v H2
def tDIn (ty td : TE) : TE := fun σ H Q => ty σ H fun y H1 => td σ H1 fun x H2 => ∃ a o, x = .ref a ∧ DGet H2 a y o ∧ Q (.bl o.isSome) H2
def tDNotIn (ty td : TE) : TE := fun σ H Q => ty σ H fun y H1 => td σ H1 fun x H2 => ∃ a o, x = .ref a ∧ DGet H2 a y o ∧ Q (.bl (!o.isSome)) H2
def sDPut (td ty tv : TE) : TS := fun D σ H => tv σ H fun v H1 => td σ H1 fun x H2 => ty σ H2 fun y H3 => ∃ a H4, x = .ref a ∧ DPut H3 a y v H4 ∧ D.nx σ H4
def sDAug (td ty tv : TE) (rd : V → V → Hp → VK → Prop) : TS := fun D σ H => td σ H fun x H1 => ty σ H1 fun y H2 => ∃ a v, x = .ref a ∧ DGet H2 a y (some v) ∧
  tv σ H2 fun y2 H3 => rd v y2 H3 fun z H4 => ∃ H5, DPut H4 a y z H5 ∧ D.nx σ H5
def sDDel (td ty : TE) : TS := fun D σ H => td σ H fun x H1 => ty σ H1 fun y H2 => ∃ a kvs k, x = .ref a ∧ H2 a = some (.dK kvs) ∧ y = kV k ∧ (valV kvs k).isSome = true ∧ D.nx σ (upd H2 a (.dK (dropK kvs k)))
section
variable {X : Cx} {o i e value : Expr} {pos pos' tpos : Pos} {td ty tv : TE}
end
def tDNewK : TE := fun _ H Q => ∀ p, H p = none → Q (.ref p) (upd H p (.dK []))
def tDNewT : TE := fun _ H Q => ∀ p, H p = none → Q (.ref p) (upd H p (.dT []))
section
variable {X : Cx} {pos : Pos}
end
def tPairs : List (TE × TE) → St → Hp → (List (V × V) → Hp → Prop) → Prop
  | [], _, H, Q => Q [] H
  | (tk, tv) :: r, σ, H, Q => tk σ H fun x H1 => tv σ H1 fun y H2 => tPairs r σ H2 fun ps H3 => Q ((x, y) :: ps) H3
abbrev VV : List (V × V) → List (Value × Value) → Prop := Paired fun p q => RelV p.1 q.1 ∧ RelV p.2 q.2
def PPs (X : Cx) (pos : Pos) (keys : List (Option Expr)) (values : List Expr) (trs : List (TE × TE)) : Prop :=
  ∀ (pins : List (Addr × Obj)) (s : Shared) (σ : St) (H : Hp) (Q : List (V × V) → Hp → Prop), Inv X pins σ H s → tPairs trs σ H Q →
    wpAny (model X.prog X.w) X.A (evalPairs (pairTrees keys values X.env pos)) (fun vs s' => ∃ ps H', Inv X pins σ H' s' ∧ VV ps vs ∧ Q ps H') X.xe s
def mergeK (kvs more : List (Key × V)) : List (Key × V) := more.foldl (fun acc kv => putK acc kv.1 kv.2) kvs
def tDisp (trs : List (TE × TE)) : TE := fun σ H Q => ∀ p, H p = none → tPairs trs σ (upd H p (.dK [])) fun ps H2 => H2 p = some (.dK []) ∧ ∃ kvs : List (Key × V), ps = kvs.map (fun kv => (kV kv.1, kv.2)) ∧ kvs.length ≤ 15 ∧ Q (.ref p) (upd H2 p (.dK (mergeK [] kvs)))
structure M1 (X : Cx) (o : Expr) (m : Str) (apos : Pos) (e : Expr) (cpos : Pos) : Prop where
  base : attributeBase o m X.env (eval o X.env) = eval o X.env
  few : ((backTo cpos (starEach [e] X.env)).all (fun x => !x.1) && (backToKw cpos (keywordEach [] X.env)).all (fun x => x.1.isSome)
    && decide (([e] : List Expr).length + ([] : List Keyword).length + (if ([] : List Keyword).isEmpty then 0 else 1) < 30)) = true
  line : (apos.endLine == cpos.line) = true
  trees : backTo cpos (starEach [e] X.env) = [(false, eval e X.env)]
structure M2 (X : Cx) (o : Expr) (m : Str) (apos : Pos) (e f : Expr) (cpos : Pos) : Prop where
  base : attributeBase o m X.env (eval o X.env) = eval o X.env
  few : ((backTo cpos (starEach [e, f] X.env)).all (fun x => !x.1) && (backToKw cpos (keywordEach [] X.env)).all (fun x => x.1.isSome)
    && decide (([e, f] : List Expr).length + ([] : List Keyword).length + (if ([] : List Keyword).isEmpty then 0 else 1) < 30)) = true
  line : (apos.endLine == cpos.line) = true
  trees : backTo cpos (starEach [e, f] X.env) = [(false, eval e X.env), (false, eval f X.env)]
def IsD (H : Hp) (a : Addr) : Prop := (∃ kvs, Rd H a (.dK kvs)) ∨ ∃ kvs, Rd H a (.dT kvs)
section
variable {X : Cx} {pins : List (Addr × Obj)} {σ : St} {H : Hp} {s : Shared} {a : Addr} {y d : V} {u r : Value} {o : Option V} {A : Around} {E : Value → Shared → Prop}
end
def tDGet1 (td ty : TE) : TE := fun σ H Q => td σ H fun x H1 => ∃ a, x = .ref a ∧ IsD H1 a ∧ ty σ H1 fun y H2 => ∃ o, DGet H2 a y o ∧ Q (o.getD .non) H2
def tDGet2 (td ty tx : TE) : TE := fun σ H Q => td σ H fun x H1 => ∃ a, x = .ref a ∧ IsD H1 a ∧ ty σ H1 fun y H2 => tx σ H2 fun z H3 => ∃ o, DGet H3 a y o ∧ Q (o.getD z) H3
def tDPop1 (td ty : TE) : TE := fun σ H Q => td σ H fun x H1 => ∃ a, x = .ref a ∧ IsD H1 a ∧ ty σ H1 fun y H2 => ∃ kvs k v, H2 a = some (.dK kvs) ∧ y = kV k ∧ valV kvs k = some v ∧ Q v (upd H2 a (.dK (dropK kvs k)))
def tDPop2 (td ty tx : TE) : TE := fun σ H Q => td σ H fun x H1 => ∃ a, x = .ref a ∧ IsD H1 a ∧ ty σ H1 fun y H2 => tx σ H2 fun z H3 => ∃ kvs k, H3 a = some (.dK kvs) ∧ y = kV k ∧
  (∀ v, valV kvs k = some v → Q v (upd H3 a (.dK (dropK kvs k)))) ∧ (valV kvs k = none → Q z H3)
section
variable {X : Cx} {o e f : Expr} {apos cpos : Pos} {td ty tx : TE}
end
section
variable {X : Cx} {pins : List (Addr × Obj)} {σ : St} {H : Hp} {s : Shared} {a : Addr} {kvs : List (Key × V)} {A : Around} {E : Value → Shared → Prop}
end
section
variable {X : Cx} {pins : List (Addr × Obj)} {σ : St} {H : Hp} {s : Shared} {a : Addr} {y : V} {u : Value} {A : Around} {E : Value → Shared → Prop}
end
end L2
namespace Att
open PySem PySem.W PySem.Calls PyProof.Rows
theorem ints_of_wellAll {P : Params} {h : Heap} : ∀ (ns : List Int) (vs : List Value), WellAll P h vs (ns.map WData.int) → IntsAre vs ns := by
  intro ns
  induction ns with
  | nil =>
    intro vs w
    rw [List.map_nil] at w
    cases w
    exact .nil
  | cons n ns ih =>
    intro vs w
    rw [List.map_cons] at w
    cases w with
    | cons a b =>
      cases a
      exact .cons _ _ (ih _ b)
theorem script_of {l : OpenLaw} {n : Nat} (hn : l.most = some n) {P : Params} {h : Heap} {args : List WData} {vals : List Value}
    (hpre : l.row.toRowW.claim.pre args = true) (hwl : WellAll P h vals args) :
    ∃ a vs ns, vals = [Value.ref a] ∧ args = [WData.list (ns.map WData.int)] ∧ h.get? a = some { cls := .type "list", data := .seq vs.toArray } ∧ IntsAre vs ns ∧ ns.length ≤ n := by
  have hsh : WShape.hasAll [] args [.list .int] = true := (pre_splitW hpre).1
  have hc : l.pre.holds [] { args := args } = true := (pre_splitW hpre).2
  obtain ⟨d, r, rfl, h1, h2⟩ := hasAllW_cons hsh
  obtain rfl := hasAllW_nil h2
  obtain ⟨xs, rfl, h3⟩ := hasW_list h1
  obtain ⟨ns, rfl⟩ := items_int h3
  have hlen : ns.length ≤ n := by
    unfold OpenLaw.pre at hc
    have h4 : (WTm.not (.lt (.lit (.int (n : Int))) (.len (.arg 0)))).holds [] { args := [.list (ns.map .int)] } = true := by
      have h4 := (holds_andW hc).1
      rw [hn] at h4
      exact h4
    have h5 := condW_of h4 (w_not (w_lt w_lit (w_len_list (w_arg rfl))))
    rw [List.length_map] at h5
    refine Nat.le_of_not_lt fun q => ?_
    have q' : (n : Int) < ((ns.length : Nat) : Int) := by omega
    first
      | (rw [decide_eq_true q'] at h5; exact absurd h5 (by decide))
      | (simp at h5; omega)
  cases hwl with
  | cons w1 w2 =>
    cases w2
    cases w1 with
    | list ho hall => exact ⟨_, _, ns, rfl, rfl, ho, ints_of_wellAll ns _ hall, hlen⟩
theorem post_true (l : OpenLaw) (args : List WData) : l.row.toRowW.claim.post args (.bool true) args = true :=
  postW_of (r := l.row.toRowW) (X := (true == true))
    (show WShape.has [] (.bool true) .bool = true by first | rfl | decide | simp [WShape.has, WShape.arms, WShape.armsAll])
    (show (WTm.eq .res (.lit (.bool true))).value [] { args := args, res := some (.bool true), after := args } = some (.bool (true == true)) from w_eq_bool (w_res rfl) w_lit) rfl
theorem attach_call {l : OpenLaw} {n : Nat} {q : Program} {loose : List Str} {XP : (Str → Option Value) → Heap → Prop} {YP : World → Heap → Prop} {d : DefRec}
    (hn : l.most = some n) (hdf : d.params.defaults = [])
    (call : ∀ (w : World) (s₀ s₁ : Shared) (mg mb : Str → Option Value) (fa : Addr) (o : Obj) (pm cd doc : Value) (a : Addr) (vs : List Value) (ns : List Int),
      Ground q loose [] XP w s₀ mg mb s₁.heap → YP w s₁.heap →
      s₁.heap.get? fa = some o → o.data = .func (docDef d.name d.params d.body d.scope pm cd doc) → s₁.heap.CodeRec cd d.name → mg d.name = some (.ref fa) →
      s₁.heap.get? a = some { cls := .type "list", data := .seq vs.toArray } → IntsAre vs ns → ns.length ≤ n → s₁.gens = #[] →
      codeAny (model l.prog w) callerA (.call (.ref fa) ⟨[.ref a], []⟩) (fun r s' => r = .ok (.ret (.bool true)) ∧ OldK s₁.heap s'.heap ∧ s'.os = s₁.os ∧ AllBare s'.gens) s₁) :
    WalkO q loose XP YP l.row.toRowW d [] (fun f vs => PySem.call f vs) := by
  intro w s₀ s₁ mg mb G Y fa o pm cd doc dV kV ho hd hcd hD hmg hg args vals as hpre hlay hrd hwl hlo
  obtain rfl : dV = .none := Dflts.none hD hdf
  obtain rfl : kV = .none := Dflts.noKw hD
  obtain ⟨a, vs, ns, rfl, rfl, hobj, hints, hlen⟩ := script_of hn hpre hwl
  refine enter_call (codeAny_mono (call w s₀ s₁ mg mb fa o pm cd doc a vs ns G Y ho (fd_plain hd) hcd hmg hobj hints hlen hg) fun r s' hq => ?_)
  obtain ⟨rfl, h2, h3, h4⟩ := hq
  exact ⟨.inl ⟨.bool true, .bool true, [], rfl, fun _ => rfl, .bool true, post_true l _, fun _ => ⟨List.Pairwise.nil, fun _ hm => (nomatch hm)⟩⟩, h2, h3, h4⟩
section
variable {prog : Program} {w : World} {A : Around} {E : Value → Shared → Prop} {s : Shared} {K : Frag}
def noObjs (h : Heap) : Heap := { h with objs := #[] }
def ledger (h : Heap) (L d : Addr) : List (Addr × Obj) := (List.range h.objs.size).filterMap fun a => if a = L ∨ a = d then none else (h.get? a).map fun o => (a, o)
end
end Att
namespace L2
open PySem PySem.Spec PyProof.Rows
theorem vals_ints : ∀ {vs : List Value} {ns : List Int}, IntsAre vs ns → Vals (ns.map V.int) vs
  | _, _, .nil => .nil
  | _, _, .cons n t h => .cons ⟨t, rfl⟩ (vals_ints h)
def Only (H : Hp) : Prop := ∀ b, H b = none ∨ ∃ o xs, H b = some (.frz o (.lst xs))
theorem law_call {P : Program} {w : World} {K : PySem.W.Frag} {mg mb : Str → Option Value} {CX : CXT} {k : Nat} {fa a : Addr} {fd : FuncData} {x : Str} {sp : Sp} {s₁ : Shared} {vs : List Value} {ns : List Int}
    (KX : K.In s₁.heap) (hns : s₁.heap.Ns mainGlobals mg) (hb : s₁.heap.Ns builtinsNs mb) (hbb : ∀ x : Str, x ≠ "__name__" → mb x = bootBuiltins x) (hlim : s₁.heap.NoLimit) (hg : s₁.gens = #[])
    (ha : s₁.heap.get? a = some { cls := .type "list", data := .seq vs.toArray }) (hi : IntsAre vs ns) (hl : ns.length ≤ sizeLine) (hr : Room k callerA)
    (F : ∀ base : Heap, K.In base → base.Ns mainGlobals mg → FnOk P w K mg base CX k fa fd [x] sp) (hbind : ∀ (s : Shared) (u : Value), BindsTo s fd ⟨[u], []⟩ [(x, u)])
    (hsp : ∀ H : Hp, Only H → SqL K H a (ns.map V.int) → sp [.ref a] H (fun v _ => v = .bl true) fun _ _ _ => False)
    (hCX : ∀ H e s', CX [] H s₁ (fun _ _ _ => False) e s' → False) :
    codeAny (model P w) callerA (.call (.ref fa) ⟨[.ref a], []⟩) (fun r s' => r = .ok (.ret (.bool true)) ∧ OldK s₁.heap s'.heap ∧ s'.os = s₁.os ∧ AllBare s'.gens) s₁ := by
  have rv := vals_ints hi
  have lenV := hi.length
  have core : ∀ H : Hp, Only H → SqL K H a (ns.map V.int) → HOk P w H s₁.heap → (∀ b, H b ≠ none → b = a) → (H a ≠ none → K.lookup a = none) →
      codeAny (model P w) callerA (.call (.ref fa) ⟨[.ref a], []⟩) (fun r s' => r = .ok (.ret (.bool true)) ∧ OldK s₁.heap s'.heap ∧ s'.os = s₁.os ∧ AllBare s'.gens) s₁ := by
    intro H hO hS hok hA hK
    have base_of : ∀ {b : Addr} {o : Obj}, s₁.heap.get? b = some o → H b = none → (hidT s₁.heap H).get? b = some o := fun e n => hidT_get e n
    have noA : ∀ {b : Addr} {o : Obj} {es : Array DictEntry} {ep : Nat}, s₁.heap.get? b = some o → o.data = .dict es ep → H b = none := fun {b o es ep} e d => by
      cases q : H b with
      | none => rfl
      | some u =>
        have e' : b = a := hA b (by rw [q]; simp)
        subst e'
        rw [ha] at e; cases e
        have d' : Data.seq vs.toArray _ = Data.dict es ep := d
        cases d'
    have nsK : ∀ {b : Addr} {m : Str → Option Value}, s₁.heap.Ns b m → (hidT s₁.heap H).Ns b m := fun {b m} ⟨o, es, ep, e, d, r⟩ => ⟨o, es, ep, base_of e (noA e d), d, r⟩
    have hKb : K.In (hidT s₁.heap H) := fun b o e => base_of (KX b o e) (by
      cases q : H b with
      | none => rfl
      | some u =>
        have e' : b = a := hA b (by rw [q]; simp)
        subst e'
        rw [hK (by rw [q]; simp)] at e; cases e)
    have hM : Mod K mg (hidT s₁.heap H) := ⟨hKb, nsK hns, ⟨mb, nsK hb, hbb⟩, let ⟨mc, h1, h2⟩ := hlim; ⟨mc, nsK h1, h2⟩⟩
    have e0 : Env0 P w K mg (hidT s₁.heap H) callerA [] s₁ H := ⟨rfl, hM, fun b o e => of_hidT e, Nat.le_of_eq (hidT_size _ _), trivial, fun b hb => absurd (show b ∈ ([] : List Addr) from hb) (by simp), hok, .of_eq hg⟩
    refine codeAny_mono ((F _ hKb (nsK hns)).run callerA [] s₁ H ⟨[.ref a], []⟩ [.ref a] [.ref a] _ _ hr e0 (hbind s₁ (.ref a)) (.cons rfl .nil) (hsp H hO hS)) fun r s' h => ?_
    cases r with
    | error e => exact (hCX H e s' h).elim
    | ok fl =>
      cases fl with
      | next => exact False.elim h
      | brk => exact False.elim h
      | cont => exact False.elim h
      | ret u =>
        obtain ⟨v, H', os, bare, un, hok', r', q⟩ := h
        have q' : v = .bl true := q
        subst q'
        obtain rfl : u = Value.bool true := r'
        refine ⟨rfl, OldK.of_keep fun b o e => ?_, os, bare⟩
        cases q : H b with
        | none => exact un.keep b o e q (by intro z; exact absurd (show b ∈ ([] : List Addr) from z) (by simp)) (by simp)
        | some u =>
          rcases hO b with z | ⟨ob, xs, z⟩
          · rw [q] at z; cases z
          · have z2 := un.frzs b ob _ z
            obtain ⟨e1, _⟩ := hok b _ z
            obtain ⟨e2, _⟩ := hok' b _ z2
            rw [e] at e1; cases e1
            exact e2
  cases hk : K.lookup a with
  | some o =>
    have e := KX a o hk
    rw [ha] at e
    cases e
    refine core (fun _ => none) (fun _ => .inl rfl) (.inr ⟨_, vs.toArray, _, hk, rfl, rfl, rfl, by rw [List.size_toArray, lenV]; exact hl, by simpa using rv⟩) (fun b u z => by have z' : (none : Option HO) = some u := z; cases z') (fun b z => absurd rfl z) fun z => absurd rfl z
  | none =>
    refine core (fun b => if b = a then some (.frz { cls := .type "list", data := .seq vs.toArray } (.lst (ns.map V.int))) else none) (fun b => ?_) (.inl (.inr ⟨{ cls := .type "list", data := .seq vs.toArray }, if_pos rfl⟩)) (fun b u z => ?_) (fun b z => ?_) fun _ => hk
    · by_cases hb : b = a
      · exact .inr ⟨_, _, if_pos hb⟩
      · exact .inl (if_neg hb)
    · by_cases hb : b = a
      · have z' := (if_pos hb).symm.trans z
        cases z'
        subst hb
        exact ⟨ha, by rw [List.length_map]; exact hl, vs, _, rv, ha⟩
      · have z' := (if_neg hb).symm.trans z
        cases z'
    · by_cases hb : b = a
      · exact hb
      · exact absurd (if_neg hb) z
end L2
namespace L2
open PySem PySem.Spec PyProof.Rows
abbrev KOf {K : PySem.W.Frag} {h : Heap} (_ : K.In h) : PySem.W.Frag := K
theorem walk_of {l : PySem.W.OpenLaw} {n k : Nat} {q : Program} {loose : List Str} {XP : (Str → Option Value) → Heap → Prop} {YP : World → Heap → Prop} {d : DefRec} {K : Params → PySem.W.Frag} {CX : World → CXT} {sp : World → Sp} {x : Str}
    (hn : l.most = some n) (hn2 : n ≤ sizeLine) (hdf : d.params.defaults = []) (hr : Room k callerA)
    (hY : ∀ (w : World) (h : Heap), YP w h → (K w.params).In h)
    (F : ∀ (w : World) (mg : Str → Option Value) (fa : Addr) (h : Heap), (K w.params).In h → h.Ns mainGlobals mg → mg d.name = some (.ref fa) →
      ∃ fd : FuncData, (∀ (s : Shared) (u : Value), BindsTo s fd ⟨[u], []⟩ [(x, u)]) ∧
        ∀ base : Heap, (K w.params).In base → base.Ns mainGlobals mg → FnOk l.prog w (K w.params) mg base (CX w) k fa fd [x] (sp w))
    (hsp : ∀ (w : World) (H : Hp) (a : Addr) (ns : List Int), ns.length ≤ n → Only H → SqL (K w.params) H a (ns.map V.int) → sp w [.ref a] H (fun v _ => v = .bl true) fun _ _ _ => False)
    (hCX : ∀ (w : World) (H : Hp) (s : Shared) (e : Value) (s' : Shared), CX w [] H s (fun _ _ _ => False) e s' → False) :
    PySem.W.WalkO q loose XP YP l.row.toRowW d [] (fun f vs => PySem.call f vs) := by
  refine Att.attach_call hn hdf fun w s₀ s₁ mg mb fa o pm cd doc a vs ns G Y ho hd hcd hmg hobj hints hlen hg => ?_
  have KX := hY w _ Y
  obtain ⟨fd, hb, hF⟩ := F w mg fa _ KX G.T.g hmg
  exact law_call KX G.T.g G.T.b G.T.builtins G.T.nolimit hg hobj hints (Nat.le_trans hlen hn2) hr hF hb (fun H hO hS => hsp w H a ns hlen hO hS) fun H e s' => hCX w H s₁ e s'
end L2
namespace L2
open PySem PySem.Spec PyProof.Rows
def inClass (s : Stmt) (j : Nat) : Stmt := match s with
  | .ClassDef _ _ _ body _ _ _ _ _ _ _ => body.getD j (.Pass ⟨0, 0, 0, 0⟩)
  | _ => .Pass ⟨0, 0, 0, 0⟩
def defArgs (s : Stmt) : Arguments := match s with
  | .FunctionDef _ a _ _ _ _ _ _ _ _ => a
  | _ => { posonlyargs := [], args := [], vararg := none, kwonlyargs := [], kw_defaults := [], kwarg := none, defaults := [] }
def defBody (s : Stmt) : List Stmt := match s with
  | .FunctionDef _ _ b _ _ _ _ _ _ _ => b
  | _ => []
def defScope (s : Stmt) : Scope := match s with
  | .FunctionDef _ _ _ _ _ _ sc _ _ _ => sc
  | _ => { kind := .function, names := [], isGenerator := false, isCoroutine := false }
abbrev CX0 : CXT := fun _ _ _ _ _ _ => False
abbrev E0 : XK := fun _ _ _ => False
theorem pass0 {X : Cx} : Passes CX0 X E0 := fun _ _ _ _ _ _ _ h => h.elim
structure Fun (K : PySem.W.Frag) (x qual : Str) (st : Stmt) (f : Addr) (fd : FuncData) : Prop where
  ex : ∃ (oc : Value) (od : Option Addr) (kV doc pm : Value) (an : Option Addr) (cdv ct : Value) (osl : Array (Option Value)),
    fd = PySem.W.fnOf x qual (defArgs st) (defBody st) (defScope st) .none kV doc pm an cdv ct ∧ K.lookup f = some ⟨oc, od, .func fd, osl⟩ ∧ PySem.W.codeIn K cdv qual = true
  kp : PySem.W.keepIn K (.ref f) = true
section
variable {P : Program} {w : World} {K : PySem.W.Frag} {mg : Str → Option Value} {base : Heap}
theorem Fun.ok {x qual : Str} {st : Stmt} {f : Addr} {fd : FuncData} {N ps : List Str} {k : Nat} {sp : Sp} (F : Fun K x qual st f fd) (S : FnScope N ps (defScope st)) (len : ∀ vs H Q E, sp vs H Q E → vs.length = ps.length)
    (hbody : ∀ (cdv : Value) (A : Around) (outer : List Env) (s : Shared) (H : Hp) (vs : List V) (Q : VK) (E : XK), Room k (A.deeper (envOfC qual (defScope st) s.heap.objs.size f cdv)) → sp vs H Q E →
      ∃ t, PSs (cxOf CX0 P w K mg base N qual (defScope st) f cdv A outer s H E).nox (defBody st) t ∧ t { nx := fun _ H' => Q .non H', rt := Q } (start N vs) H) : FnOk P w K mg base CX0 (k + 1) f fd ps sp := by
  obtain ⟨oc, od, kV, doc, pm, an, cdv, ct, osl, rfl, lk, hcd⟩ := F.ex
  refine fn_of lk hcd S len fun A outer s H vs Q E hr hsp => ?_
  obtain ⟨t, h, q⟩ := hbody cdv A outer s H vs Q E hr hsp
  exact ⟨t, h.nox, q⟩
theorem Fun.binds {x qual : Str} {st : Stmt} {f : Addr} {fd : FuncData} {ps : List Str} (F : Fun K x qual st f fd)
    (h : ∀ (kV doc pm : Value) (an : Option Addr) (cdv ct : Value) (us : List Value), us.length = ps.length → bindArgs (PySem.W.fnOf x qual (defArgs st) (defBody st) (defScope st) .none kV doc pm an cdv ct) ⟨us, []⟩ = pure (ps.zip us)) : Binds K fd ps [] := by
  obtain ⟨oc, od, kV, doc, pm, an, cdv, ct, osl, rfl, lk, hcd⟩ := F.ex
  exact .all (h kV doc pm an cdv ct)
theorem fun_mk {x qual : Str} {st : Stmt} {f : Addr} {oc : Value} {od an : Option Addr} {osl : Array (Option Value)} {kV doc pm cdv ct : Value} (l : K.lookup f = some ⟨oc, od, .func (PySem.W.fnOf x qual (defArgs st) (defBody st) (defScope st) .none kV doc pm an cdv ct), osl⟩)
    (c : PySem.W.codeIn K cdv qual = true) (k : PySem.W.keepIn K (.ref f) = true) : Fun K x qual st f (PySem.W.fnOf x qual (defArgs st) (defBody st) (defScope st) .none kV doc pm an cdv ct) := ⟨⟨oc, od, kV, doc, pm, an, cdv, ct, osl, rfl, l, c⟩, k⟩
end
section
variable {X : Cx}
theorem pv (i : Nat) {x : Str} {pos : Pos} (hN : X.N[i]? = some x := by rfl) (hv : Vis X.env.scope x := by first | exact Or.inl rfl | exact Or.inr (Or.inl rfl) | exact Or.inr (Or.inr rfl)) (hd : (x == ("__debug__" : Str)) = false := by decide)
    (hcd : (x == ("__classdict__" : Str)) = false := by decide) : PE X (.Name x pos) (tVar i) := pe_var hN hv hd hcd
end
theorem iteF {A B : Prop} (h : B) : if false = true then A else B := by
  rw [if_neg Bool.false_ne_true]
  exact h
theorem iteT {A B : Prop} (h : A) : if true = true then A else B := by
  rw [if_pos rfl]
  exact h
theorem ite2 {c A B : Prop} [Decidable c] (h1 : c → A) (h2 : ¬ c → B) : if c then A else B := by
  by_cases h : c
  · rw [if_pos h]
    exact h1 h
  · rw [if_neg h]
    exact h2 h
theorem iteNS {c A B : Prop} [Decidable c] (hc : c) (h : B) : if (!decide c) = true then A else B := by
  rw [decide_eq_true hc]
  exact iteF h
def Same (H H' : Hp) : Prop := ∀ b o, H b = some o → H' b = some o
theorem Same.refl (H : Hp) : Same H H := fun _ _ h => h
theorem Same.trans {H H1 H2 : Hp} (a : Same H H1) (b : Same H1 H2) : Same H H2 := fun c o h => b c o (a c o h)
theorem Same.free {H H' : Hp} (e : Same H H') {l : Addr} (h : H' l = Option.none) : H l = Option.none := by
  cases q : H l with
  | none => rfl
  | some o =>
    rw [e l o q] at h
    cases h
theorem Same.seq {K : PySem.W.Frag} {H H' : Hp} {a : Addr} {xs : List V} (e : Same H H') (h : SqL K H a xs) : SqL K H' a xs := by
  rcases h with (h | ⟨o, h⟩) | h
  · exact .inl (.inl (e _ _ h))
  · exact .inl (.inr ⟨o, e _ _ h⟩)
  · exact .inr h
section
variable {κ : Type} [DecidableEq κ]
end
end L2
end
section
set_option linter.all false
namespace L2
open PySem
section
variable {env : Env}
theorem clos_go : ∀ (l : List (Str × NameKind)) (cs : List (Str × Addr)), (∀ x ∈ l, x.2 = .free → ∃ c, env.cells.lookup x.1 = some c) → (∀ x c, cs.lookup x = some c → env.cells.lookup x = some c) →
    ∃ cl, (forIn l cs (fun x r => if (x.2 == NameKind.free) = true then do let a ← cellOf env x.1; pure (ForInStep.yield ((x.1, a) :: r)) else pure (ForInStep.yield r)) : Sem (List (Str × Addr))) = pure cl ∧
      (∀ x c, cl.lookup x = some c → env.cells.lookup x = some c) ∧ ∀ x, ((x, NameKind.free) ∈ l ∨ ∃ c, cs.lookup x = some c) → ∃ c, cl.lookup x = some c
  | [], cs, _, hs => ⟨cs, rfl, hs, fun x h => h.elim (fun z => by cases z) id⟩
  | (n, k) :: l, cs, h, hs => by
    have hl : ∀ x ∈ l, x.2 = .free → ∃ c, env.cells.lookup x.1 = some c := fun x hx => h x (List.mem_cons_of_mem _ hx)
    rw [List.forIn_cons]
    by_cases hk : k = .free
    · subst hk
      obtain ⟨c, hc⟩ := h (n, .free) (List.mem_cons_self ..) rfl
      obtain ⟨cl, e, h1, h2⟩ := clos_go l ((n, c) :: cs) hl fun x c' z => by
        by_cases hx : x = n
        · subst hx
          rw [List.lookup_cons_self] at z
          cases z; exact hc
        · have hx' : (x == n) = false := by simpa using hx
          rw [List.lookup_cons, hx'] at z
          exact hs x c' z
      refine ⟨cl, ?_, h1, fun x hx => h2 x ?_⟩
      · have e0 : cellOf env n = pure c := by unfold cellOf; rw [hc]
        simp only [beq_self_eq_true, if_true, e0, pure_bind]
        exact e
      · rcases hx with hx | ⟨c', hx⟩
        · rcases List.mem_cons.mp hx with hx | hx
          · have : x = n := (Prod.mk.inj hx).1
            subst this
            exact .inr ⟨c, List.lookup_cons_self⟩
          · exact .inl hx
        · by_cases hxn : x = n
          · subst hxn; exact .inr ⟨c, List.lookup_cons_self⟩
          · have hx' : (x == n) = false := by simpa using hxn
            exact .inr ⟨c', by rw [List.lookup_cons, hx']; exact hx⟩
    · obtain ⟨cl, e, h1, h2⟩ := clos_go l cs hl hs
      have hb : (k == NameKind.free) = false := by simpa using hk
      refine ⟨cl, ?_, h1, fun x hx => h2 x ?_⟩
      · simp only [hb, Bool.false_eq_true, if_false, pure_bind]
        exact e
      · rcases hx with hx | hx
        · rcases List.mem_cons.mp hx with hx | hx
          · exact absurd (Prod.mk.inj hx).2.symm hk
          · exact .inl hx
        · exact .inr hx
theorem closure_of {scope : Scope} (h : ∀ x ∈ scope.names, x.2 = .free → ∃ c, env.cells.lookup x.1 = some c) :
    ∃ cl, closureFor scope env = pure cl ∧ (∀ x c, cl.lookup x = some c → env.cells.lookup x = some c) ∧ ∀ x, (x, NameKind.free) ∈ scope.names → ∃ c, cl.lookup x = some c := by
  obtain ⟨cl, e, h1, h2⟩ := clos_go scope.names [] h (fun x c z => by simp at z)
  refine ⟨cl, ?_, h1, fun x hx => h2 x (.inl hx)⟩
  unfold closureFor
  dsimp only
  refine Eq.trans (congrArg (· >>= pure) ?_) (Eq.trans (congrArg (· >>= pure) e) (by simp))
  rfl
end
section
variable {prog : Program} {w : World} {A : Around} {R : Result → Shared → Prop} {s : Shared}
theorem loop_comp {elt target iter : Expr} {ifs : List Expr} {scope : Scope} {pos : Pos} {it acc : Value} {env : Env} (J : Nat → Shared → Prop)
    (turn : ∀ n s, J n s → wpAny (model prog w) A (pyNext it) (fun r s1 => match r with
      | none => R (.ok .next) s1
      | some v => wpAny (model prog w) A (letOwnedTupleGo target it v) (fun _ s2 => wpAny (model prog w) A (assign target env v) (fun _ s3 =>
          wpAny (model prog w) A (forIn ifs true fun c r => if r = true then do let ok ← isTrue c env (eval c env); pure (ForInStep.yield ok) else pure (ForInStep.yield r)) (fun ok s4 =>
            if ok = true then wpAny (model prog w) A (eval elt env) (fun x s5 => wpAny (model prog w) A (call (.builtin "list.append") [acc, x]) (fun _ s6 => ∃ m, m < n ∧ J m s6) (fun _ _ => False) s5) (fun _ _ => False) s4
            else ∃ m, m < n ∧ J m s4) (fun _ _ => False) s3) (fun _ _ => False) s2) (fun _ _ => False) s1) (fun _ _ => False) s)
    (n : Nat) (h : J n s) : codeAny (model prog w) A (.compLoop (.ListComp elt [⟨target, iter, ifs, 0⟩] scope pos) 0 it acc env) R s := by
  refine codeAny_loop rfl J (fun n s hJ => ?_) n h
  show wpAny _ A ((compTurn (.ListComp elt [⟨target, iter, ifs, 0⟩] scope pos) 0 it acc env).onRaise (fun x => noteFrame x env >>= fun _ => theTreesLotGoes x)) _ _ s
  refine wpAny_noted ?_
  have no : ∀ {α : Type} {t : Sem α} {Q : α → Shared → Prop} {E : Value → Shared → Prop} {s : Shared}, wpAny (model prog w) A t Q (fun _ _ => False) s → wpAny (model prog w) A t Q E s := fun h => wpAny_mono h (fun _ _ q => q) fun _ _ f => f.elim
  rw [compTurn_list]
  refine wpAny_bind (wpAny_standAt (wpAny_bind (no (wpAny_mono (turn n s hJ) (fun r s1 h1 => ?_) fun _ _ f => f))))
  cases r with
  | none => exact wpAny_pure h1
  | some v =>
    refine wpAny_bind (no (wpAny_mono h1 (fun _ s2 h2 => ?_) fun _ _ f => f))
    refine wpAny_bind (no (wpAny_mono h2 (fun _ s3 h3 => ?_) fun _ _ f => f))
    refine wpAny_bind (no (wpAny_mono h3 (fun ok s4 h4 => ?_) fun _ _ f => f))
    cases ok with
    | false => exact wpAny_pure ⟨rfl, h4⟩
    | true =>
      refine wpAny_bind (wpAny_bind (no (wpAny_mono h4 (fun x s5 h5 => ?_) fun _ _ f => f)))
      exact wpAny_bind (no (wpAny_mono h5 (fun _ s6 h6 => wpAny_pure (wpAny_pure ⟨rfl, h6⟩)) fun _ _ f => f))
end
end L2
end
section
open PySem PySem.W PyProof.Rows
namespace MyS
def ev {α : Type} (lt : Nat → Nat → Bool) : KasT α → α
  | .ret a => a
  | .ask i j k => ev lt (k (lt i j))
theorem ev_bind {α β : Type} (lt : Nat → Nat → Bool) (f : α → KasT β) : ∀ t : KasT α, ev lt (t.bind f) = ev lt (f (ev lt t))
  | .ret _ => rfl
  | .ask i j k => ev_bind lt f (k (lt i j))
def okT {α : Type} (lt : Nat → Nat → Bool) (N : Nat) : KasT α → Prop
  | .ret _ => True
  | .ask i j k => i < N ∧ j < N ∧ i ≠ j ∧ okT lt N (k (lt i j))
theorem okT_bind {α β : Type} {lt : Nat → Nat → Bool} {N : Nat} {f : α → KasT β} : ∀ (t : KasT α), okT lt N t → okT lt N (f (ev lt t)) → okT lt N (t.bind f)
  | .ret _, _, h => h
  | .ask i j k, h, h' => ⟨h.1, h.2.1, h.2.2.1, okT_bind (k (lt i j)) h.2.2.2 h'⟩
structure TotalOn (lt : Nat → Nat → Bool) (n : Nat) : Prop where
  irr : ∀ i, i < n → lt i i = false
  tr : ∀ i j k, i < n → j < n → k < n → lt i j = true → lt j k = true → lt i k = true
  tot : ∀ i j, i < n → j < n → i ≠ j → lt i j = true ∨ lt j i = true
abbrev gg (p : Array Nat) (i : Nat) : Nat := p.getD i 0
def Pm (p : Array Nat) (n : Nat) : Prop := p.toList.Perm (List.range n)
theorem Pm.size {p : Array Nat} {n : Nat} (h : Pm p n) : p.size = n := by
  have := List.Perm.length_eq h
  simpa using this
theorem gg_eq {p : Array Nat} {i : Nat} (h : i < p.size) : gg p i = p[i] := by simp [gg, Array.getD, h]
theorem Pm.lt {p : Array Nat} {n i : Nat} (h : Pm p n) (hi : i < n) : gg p i < n := by
  have hs : i < p.size := by rw [h.size]; exact hi
  have hm : p[i] ∈ List.range n := (List.Perm.mem_iff h).mp (by simp)
  rw [gg_eq hs]
  exact List.mem_range.mp hm
theorem Pm.ne {p : Array Nat} {n i j : Nat} (h : Pm p n) (hi : i < n) (hj : j < n) (hij : i ≠ j) : gg p i ≠ gg p j := by
  have hsi : i < p.size := by rw [h.size]; exact hi
  have hsj : j < p.size := by rw [h.size]; exact hj
  have nd : p.toList.Nodup := (List.Perm.nodup_iff h).mpr List.nodup_range
  rw [gg_eq hsi, gg_eq hsj]
  intro e
  apply hij
  have e' : p.toList[i]'(by simpa using hsi) = p.toList[j]'(by simpa using hsj) := by simpa using e
  exact (List.getElem_inj nd).mp e'
theorem Pm.perm {p q : Array Nat} {n : Nat} (h : Pm p n) (e : q.Perm p) : Pm q n := (Array.perm_iff_toList_perm.mp e).trans h
def Up (lt : Nat → Nat → Bool) (p : Array Nat) (k : Nat) : Prop := ∀ i j, i < j → j < k → lt (gg p i) (gg p j) = true
def Dn (lt : Nat → Nat → Bool) (p : Array Nat) (k : Nat) : Prop := ∀ i j, i < j → j < k → lt (gg p j) (gg p i) = true
section
variable {lt : Nat → Nat → Bool} {N : Nat} {p : Array Nat}
theorem TotalOn.flip (O : TotalOn lt N) {i j : Nat} (hi : i < N) (hj : j < N) (hne : i ≠ j) (h : lt i j = false) : lt j i = true := by
  rcases O.tot i j hi hj hne with h' | h'
  · rw [h] at h'; cases h'
  · exact h'
theorem Up.more (O : TotalOn lt N) (P : Pm p N) {n : Nat} (h1 : 1 ≤ n) (hn : n < N) (u : Up lt p n) (h : lt (gg p (n - 1)) (gg p n) = true) : Up lt p (n + 1) := by
  intro i j hij hj
  by_cases e : j = n
  · subst e
    by_cases e' : i = j - 1
    · subst e'; exact h
    · exact O.tr _ _ _ (P.lt (by omega)) (P.lt (by omega)) (P.lt hn) (u i (j - 1) (by omega) (by omega)) h
  · exact u i j hij (by omega)
theorem Dn.more (O : TotalOn lt N) (P : Pm p N) {n : Nat} (h1 : 1 ≤ n) (hn : n < N) (u : Dn lt p n) (h : lt (gg p n) (gg p (n - 1)) = true) : Dn lt p (n + 1) := by
  intro i j hij hj
  by_cases e : j = n
  · subst e
    by_cases e' : i = j - 1
    · subst e'; exact h
    · exact O.tr _ _ _ (P.lt hn) (P.lt (by omega)) (P.lt (by omega)) h (u i (j - 1) (by omega) (by omega))
  · exact u i j hij (by omega)
theorem up_one : Up lt p 1 := fun i j hij hj => by omega
theorem asc_ok (O : TotalOn lt N) (P : Pm p N) : ∀ (f n : Nat), 1 ≤ n → n + f ≤ N → Up lt p n →
    n ≤ ev lt (kas_asc p f n) ∧ ev lt (kas_asc p f n) ≤ n + f ∧ Up lt p (ev lt (kas_asc p f n)) ∧ (ev lt (kas_asc p f n) < n + f → lt (gg p (ev lt (kas_asc p f n))) (gg p (ev lt (kas_asc p f n) - 1)) = true)
  | 0, n, _, _, u => ⟨Nat.le_refl _, Nat.le_refl _, u, fun h => absurd h (Nat.lt_irrefl _)⟩
  | f + 1, n, h1, hn, u => by
    have e : ev lt (kas_asc p (f + 1) n) = ev lt (if lt (gg p n) (gg p (n - 1)) = true then KasT.ret n else kas_asc p f (n + 1)) := rfl
    rw [e]
    cases c : lt (gg p n) (gg p (n - 1)) with
    | true =>
      rw [if_pos rfl]
      exact ⟨Nat.le_refl _, Nat.le_add_right _ _, u, fun _ => c⟩
    | false =>
      rw [if_neg (by simp)]
      have c' := O.flip (P.lt (by omega)) (P.lt (by omega)) (P.ne (by omega) (by omega) (by omega)) c
      obtain ⟨a1, a2, a3, a4⟩ := asc_ok O P f (n + 1) (by omega) (by omega) (u.more O P h1 (by omega) c')
      exact ⟨by omega, by omega, a3, fun h => a4 (by omega)⟩
theorem asc_t (P : Pm p N) : ∀ (f n : Nat), 1 ≤ n → n + f ≤ N → okT lt N (kas_asc p f n)
  | 0, n, _, _ => trivial
  | f + 1, n, h1, hn => by
    refine ⟨P.lt (by omega), P.lt (by omega), P.ne (by omega) (by omega) (by omega), ?_⟩
    show okT lt N (if lt (gg p n) (gg p (n - 1)) = true then KasT.ret n else kas_asc p f (n + 1))
    split
    · trivial
    · exact asc_t P f (n + 1) (by omega) (by omega)
theorem desc_t (O : TotalOn lt N) (P : Pm p N) : ∀ (f n : Nat), 1 ≤ n → n + f ≤ N → okT lt N (kas_desc f p n 0)
  | 0, n, _, _ => trivial
  | f + 1, n, h1, hn => by
    refine ⟨P.lt (by omega), P.lt (by omega), P.ne (by omega) (by omega) (by omega), ?_⟩
    show okT lt N (if lt (gg p n) (gg p (n - 1)) = true then (if 0 > 0 then kas_desc f (kas_rev p (n - (0 + 1)) n) (n + 1) 0 else kas_desc f p (n + 1) 0)
      else .ask (gg p (n - 1)) (gg p n) fun d => if d = true then .ret (p, n, 0) else kas_desc f p (n + 1) (0 + 1))
    cases c : lt (gg p n) (gg p (n - 1)) with
    | true =>
      rw [if_pos rfl, if_neg (by omega)]
      exact desc_t O P f (n + 1) (by omega) (by omega)
    | false =>
      rw [if_neg (by simp)]
      have c' := O.flip (P.lt (by omega)) (P.lt (by omega)) (P.ne (by omega) (by omega) (by omega)) c
      refine ⟨P.lt (by omega), P.lt (by omega), P.ne (by omega) (by omega) (by omega), ?_⟩
      show okT lt N (if lt (gg p (n - 1)) (gg p n) = true then KasT.ret (p, n, 0) else kas_desc f p (n + 1) (0 + 1))
      rw [c', if_pos rfl]
      trivial
theorem desc_ok (O : TotalOn lt N) (P : Pm p N) : ∀ (f n : Nat), 1 ≤ n → n + f ≤ N → Dn lt p n →
    ∃ m, ev lt (kas_desc f p n 0) = (p, m, 0) ∧ n ≤ m ∧ m ≤ n + f ∧ Dn lt p m
  | 0, n, _, _, u => ⟨n, rfl, Nat.le_refl _, Nat.le_refl _, u⟩
  | f + 1, n, h1, hn, u => by
    have e : ev lt (kas_desc (f + 1) p n 0) = ev lt (if lt (gg p n) (gg p (n - 1)) = true then (if 0 > 0 then kas_desc f (kas_rev p (n - (0 + 1)) n) (n + 1) 0 else kas_desc f p (n + 1) 0)
      else .ask (gg p (n - 1)) (gg p n) fun d => if d = true then .ret (p, n, 0) else kas_desc f p (n + 1) (0 + 1)) := rfl
    rw [e]
    cases c : lt (gg p n) (gg p (n - 1)) with
    | true =>
      rw [if_pos rfl, if_neg (by omega)]
      obtain ⟨m, a1, a2, a3, a4⟩ := desc_ok O P f (n + 1) (by omega) (by omega) (u.more O P h1 (by omega) c)
      exact ⟨m, a1, by omega, by omega, a4⟩
    | false =>
      rw [if_neg (by simp)]
      have c' := O.flip (P.lt (by omega)) (P.lt (by omega)) (P.ne (by omega) (by omega) (by omega)) c
      have e2 : ev lt (.ask (gg p (n - 1)) (gg p n) fun d => if d = true then KasT.ret (p, n, 0) else kas_desc f p (n + 1) (0 + 1)) = ev lt (if lt (gg p (n - 1)) (gg p n) = true then KasT.ret (p, n, 0) else kas_desc f p (n + 1) (0 + 1)) := rfl
      rw [e2, c', if_pos rfl]
      exact ⟨n, rfl, Nat.le_refl _, by omega, u⟩
theorem gg_rev {m k : Nat} (hm : m ≤ p.size) : gg (kas_rev p 0 m) k = if k < m then gg p (m - 1 - k) else gg p k := by
  have e := getElem?_mirror_all (i := 0) hm k
  have e0 : ∀ (q : Array Nat) (x : Nat), gg q x = (q[x]?).getD 0 := fun q x => by simp [gg]
  rw [e0, e0, e0]
  show ((mirror p 0 m ((m - 0) / 2))[k]?).getD 0 = _
  rw [e]
  by_cases h : k < m
  · rw [if_pos ⟨Nat.zero_le _, h⟩, if_pos h]
    simp
  · rw [if_neg (fun z => h z.2), if_neg h]
theorem rev_up (P : Pm p N) {m : Nat} (hm : m ≤ N) (d : Dn lt p m) : Up lt (kas_rev p 0 m) m := by
  intro i j hij hj
  have hs : m ≤ p.size := by rw [P.size]; exact hm
  rw [gg_rev hs, gg_rev hs, if_pos (by omega), if_pos hj]
  exact d _ _ (by omega) (by omega)
theorem rev_pm (P : Pm p N) (i j : Nat) : Pm (kas_rev p i j) N := P.perm (mirror_perm p i j _)
theorem count_ok (O : TotalOn lt N) (P : Pm p N) (h2 : 2 ≤ N) : ∃ m q, ev lt (kas_count N p) = (m, q) ∧ 1 ≤ m ∧ m ≤ N ∧ Pm q N ∧ Up lt q m := by
  obtain ⟨a1, a2, a3, a4⟩ := asc_ok O P (N - 1) 1 (Nat.le_refl _) (by omega) up_one
  unfold kas_count
  rw [ev_bind]
  generalize hn : ev lt (kas_asc p (N - 1) 1) = n at a1 a2 a3 a4
  by_cases e1 : (n == N) = true
  · rw [if_pos e1]
    exact ⟨n, p, rfl, a1, by omega, P, a3⟩
  · rw [if_neg e1]
    have hne : n ≠ N := by simpa using e1
    by_cases e2 : n > 1
    · rw [if_pos e2]
      have c : lt (gg p 0) (gg p (n - 1)) = true := a3 0 (n - 1) (by omega) (by omega)
      have e3 : ev lt (KasT.ask (p.getD 0 0) (p.getD (n - 1) 0) fun c => if c = true then KasT.ret (n, p) else kas_descPart n N (kas_rev p 0 n)) = ev lt (if lt (gg p 0) (gg p (n - 1)) = true then KasT.ret (n, p) else kas_descPart n N (kas_rev p 0 n)) := rfl
      rw [e3, c, if_pos rfl]
      exact ⟨n, p, rfl, a1, by omega, P, a3⟩
    · rw [if_neg e2]
      have e : n = 1 := by omega
      subst e
      have c := a4 (by omega)
      have d2 : Dn lt p 2 := fun i j hij hj => by
        have : i = 0 := by omega
        have : j = 1 := by omega
        subst i; subst j; exact c
      obtain ⟨m, b1, b2, b3, b4⟩ := desc_ok O P (N - 2) 2 (by omega) (by omega) d2
      unfold kas_descPart
      rw [ev_bind]
      have b1' : ev lt (kas_desc (N - (1 + 1)) p (1 + 1) 0) = (p, m, 0) := b1
      rw [b1']
      dsimp only
      rw [if_neg (by omega)]
      unfold kas_tail3
      rw [ev_bind]
      obtain ⟨c1, c2, c3, _⟩ := asc_ok O (rev_pm P 0 m) (N - m) m (by omega) (by omega) (rev_up P (by omega) b4)
      exact ⟨_, _, rfl, by omega, by omega, rev_pm P 0 m, c3⟩
theorem count_t (O : TotalOn lt N) (P : Pm p N) (h2 : 2 ≤ N) : okT lt N (kas_count N p) := by
  obtain ⟨a1, a2, a3, a4⟩ := asc_ok O P (N - 1) 1 (Nat.le_refl _) (by omega) up_one
  unfold kas_count
  refine okT_bind _ (asc_t P _ _ (Nat.le_refl _) (by omega)) ?_
  generalize hn : ev lt (kas_asc p (N - 1) 1) = n at a1 a2 a3 a4
  by_cases e1 : (n == N) = true
  · rw [if_pos e1]; trivial
  · rw [if_neg e1]
    have hne : n ≠ N := by simpa using e1
    by_cases e2 : n > 1
    · rw [if_pos e2]
      have c : lt (gg p 0) (gg p (n - 1)) = true := a3 0 (n - 1) (by omega) (by omega)
      refine ⟨P.lt (by omega), P.lt (by omega), P.ne (by omega) (by omega) (by omega), ?_⟩
      show okT lt N (if lt (gg p 0) (gg p (n - 1)) = true then KasT.ret (n, p) else kas_descPart n N (kas_rev p 0 n))
      rw [c, if_pos rfl]
      trivial
    · rw [if_neg e2]
      have e : n = 1 := by omega
      subst e
      have c := a4 (by omega)
      have d2 : Dn lt p 2 := fun i j hij hj => by
        have : i = 0 := by omega
        have : j = 1 := by omega
        subst i; subst j; exact c
      obtain ⟨m, b1, b2, b3, b4⟩ := desc_ok O P (N - 2) 2 (by omega) (by omega) d2
      unfold kas_descPart
      refine okT_bind _ (desc_t O P _ _ (by omega) (by omega)) ?_
      have b1' : ev lt (kas_desc (N - (1 + 1)) p (1 + 1) 0) = (p, m, 0) := b1
      rw [b1']
      dsimp only
      rw [if_neg (by omega)]
      unfold kas_tail3
      exact okT_bind _ (asc_t (rev_pm P 0 m) _ _ (by omega) (by omega)) trivial
theorem place_t (P : Pm p N) {k : Nat} (hk : k < N) : ∀ (f l r : Nat), r ≤ k → okT lt N (kas_place p k f l r)
  | 0, l, r, _ => trivial
  | f + 1, l, r, h => by
    show okT lt N (if l ≥ r then KasT.ret l else .ask (p.getD k 0) (p.getD ((l + r) / 2) 0) fun c => if c = true then kas_place p k f l ((l + r) / 2) else kas_place p k f ((l + r) / 2 + 1) r)
    by_cases hlr : l ≥ r
    · rw [if_pos hlr]; trivial
    · rw [if_neg hlr]
      refine ⟨P.lt hk, P.lt (by omega), P.ne hk (by omega) (by omega), ?_⟩
      show okT lt N (if lt (gg p k) (gg p ((l + r) / 2)) = true then kas_place p k f l ((l + r) / 2) else kas_place p k f ((l + r) / 2 + 1) r)
      split
      · exact place_t P hk f l _ (by omega)
      · exact place_t P hk f _ r h
theorem place_ok (O : TotalOn lt N) (P : Pm p N) {k : Nat} (hk : k < N) (u : Up lt p k) : ∀ (f l r : Nat), l ≤ r → r ≤ k → r - l ≤ f → (∀ i, i < l → lt (gg p i) (gg p k) = true) → (∀ i, r ≤ i → i < k → lt (gg p k) (gg p i) = true) →
    ev lt (kas_place p k f l r) ≤ k ∧ (∀ i, i < ev lt (kas_place p k f l r) → lt (gg p i) (gg p k) = true) ∧ ∀ i, ev lt (kas_place p k f l r) ≤ i → i < k → lt (gg p k) (gg p i) = true
  | 0, l, r, h1, h2, h3, a, b => by
    have : l = r := by omega
    subst this
    exact ⟨h2, a, b⟩
  | f + 1, l, r, h1, h2, h3, a, b => by
    have e : ev lt (kas_place p k (f + 1) l r) = ev lt (if l ≥ r then KasT.ret l else .ask (p.getD k 0) (p.getD ((l + r) / 2) 0) fun c => if c = true then kas_place p k f l ((l + r) / 2) else kas_place p k f ((l + r) / 2 + 1) r) := rfl
    rw [e]
    by_cases hlr : l ≥ r
    · rw [if_pos hlr]
      have : l = r := by omega
      subst this
      exact ⟨h2, a, b⟩
    · rw [if_neg hlr]
      have e2 : ev lt (KasT.ask (p.getD k 0) (p.getD ((l + r) / 2) 0) fun c => if c = true then kas_place p k f l ((l + r) / 2) else kas_place p k f ((l + r) / 2 + 1) r) = ev lt (if lt (gg p k) (gg p ((l + r) / 2)) = true then kas_place p k f l ((l + r) / 2) else kas_place p k f ((l + r) / 2 + 1) r) := rfl
      rw [e2]
      generalize hm : (l + r) / 2 = m
      have m1 : l ≤ m := by omega
      have m2 : m < r := by omega
      cases c : lt (gg p k) (gg p m) with
      | true =>
        rw [if_pos rfl]
        refine place_ok O P hk u f l m m1 (by omega) (by omega) a fun i hi hik => ?_
        by_cases e3 : i = m
        · subst e3; exact c
        · exact O.tr _ _ _ (P.lt hk) (P.lt (by omega)) (P.lt (by omega)) c (u m i (by omega) hik)
      | false =>
        rw [if_neg (by simp)]
        have c' := O.flip (P.lt hk) (P.lt (by omega)) (P.ne hk (by omega) (by omega)) c
        refine place_ok O P hk u f (m + 1) r (by omega) h2 (by omega) (fun i hi => ?_) b
        by_cases e3 : i = m
        · subst e3; exact c'
        · exact O.tr _ _ _ (P.lt (by omega)) (P.lt (by omega)) (P.lt hk) (u i m (by omega) (by omega)) c'
theorem gg_bubble {k d x : Nat} (hk : k < p.size) (hd : d ≤ k) : gg (bubble p k d) x = if x = k - d then gg p k else if k - d < x ∧ x ≤ k then gg p (x - 1) else gg p x := by
  have e := getElem?_bubble hk d hd x
  have e0 : ∀ (q : Array Nat) (x : Nat), gg q x = (q[x]?).getD 0 := fun q x => by simp [gg]
  rw [e0, e0, e0, e0, e]
  split
  · rfl
  · split <;> rfl
theorem bin_ok (O : TotalOn lt N) : ∀ (f : Nat) (p : Array Nat) (k : Nat), Pm p N → k + f = N → Up lt p k → Pm (ev lt (kas_bin f p k)) N ∧ Up lt (ev lt (kas_bin f p k)) N
  | 0, p, k, P, e, u => by
    have : k = N := by omega
    subst this
    exact ⟨P, u⟩
  | f + 1, p, k, P, e, u => by
    have e1 : kas_bin (f + 1) p k = (kas_place p k k 0 k).bind fun l => kas_bin f (bubble p k (k - l)) (k + 1) := rfl
    rw [e1, ev_bind]
    have hk : k < N := by omega
    obtain ⟨a1, a2, a3⟩ := place_ok O P hk u k 0 k (Nat.zero_le _) (Nat.le_refl _) (by omega) (fun i hi => by omega) (fun i h1 h2 => by omega)
    generalize ev lt (kas_place p k k 0 k) = l at a1 a2 a3
    have hs : k < p.size := by rw [P.size]; exact hk
    refine bin_ok O f _ (k + 1) (P.perm (bubble_perm p k _)) (by omega) fun i j hij hj => ?_
    rw [gg_bubble hs (by omega), gg_bubble hs (by omega)]
    have ekl : k - (k - l) = l := by omega
    rw [ekl]
    by_cases h1 : i = l
    · rw [if_pos h1, if_neg (by omega), if_pos (by omega)]
      exact a3 _ (by omega) (by omega)
    · rw [if_neg h1]
      by_cases h2 : l < i ∧ i ≤ k
      · rw [if_pos h2, if_neg (by omega), if_pos (by omega)]
        exact u _ _ (by omega) (by omega)
      · rw [if_neg h2]
        by_cases h3 : j = l
        · rw [if_pos h3]
          exact a2 i (by omega)
        · rw [if_neg h3]
          by_cases h4 : l < j ∧ j ≤ k
          · rw [if_pos h4]
            by_cases h5 : i = j - 1
            · omega
            · exact u _ _ (by omega) (by omega)
          · rw [if_neg h4]
            exact u _ _ hij (by omega)
theorem bin_t (O : TotalOn lt N) : ∀ (f : Nat) (p : Array Nat) (k : Nat), Pm p N → k + f = N → okT lt N (kas_bin f p k)
  | 0, p, k, P, e => trivial
  | f + 1, p, k, P, e => by
    show okT lt N ((kas_place p k k 0 k).bind fun l => kas_bin f (bubble p k (k - l)) (k + 1))
    exact okT_bind _ (place_t P (by omega) _ _ _ (Nat.le_refl _)) (bin_t O f _ (k + 1) (P.perm (bubble_perm p k _)) (by omega))
theorem sort_t (O : TotalOn lt N) (h2 : 2 ≤ N) : okT lt N (kas_sort N) := by
  have P0 : Pm (List.toArray (List.range N)) N := List.Perm.refl _
  obtain ⟨m, q, e, m1, m2, Pq, uq⟩ := count_ok O P0 h2
  unfold kas_sort
  refine okT_bind _ (count_t O P0 h2) ?_
  rw [e]
  dsimp only
  by_cases hm : m < N
  · rw [if_pos hm]
    have em : max m 1 = m := by omega
    rw [em]
    exact bin_t O (N - m) q m Pq (by omega)
  · rw [if_neg hm]; trivial
theorem sort_ok (O : TotalOn lt N) (h2 : 2 ≤ N) : Pm (ev lt (kas_sort N)) N ∧ Up lt (ev lt (kas_sort N)) N := by
  have P0 : Pm (List.toArray (List.range N)) N := List.Perm.refl _
  obtain ⟨m, q, e, m1, m2, Pq, uq⟩ := count_ok O P0 h2
  unfold kas_sort
  rw [ev_bind, e]
  dsimp only
  by_cases hm : m < N
  · rw [if_pos hm]
    have em : max m 1 = m := by omega
    rw [em]
    exact bin_ok O (N - m) q m Pq (by omega) uq
  · rw [if_neg hm]
    have : m = N := by omega
    subst this
    exact ⟨Pq, uq⟩
end
end MyS
end
section
set_option Elab.async false
set_option linter.all false
set_option maxRecDepth 100000
set_option maxHeartbeats 1000000
namespace L2
open PySem PySem.Spec PyProof.Rows
theorem HOk.track {P : Program} {w : World} {H : Hp} {h : Heap} {a : Addr} {o : HO} (x : HOk P w H h) (hn : H a = none) (new : ObjOk P w (upd H a o) h a o) : HOk P w (upd H a o) h := fun b u e => by
  by_cases hb : b = a
  · subst hb; rw [upd_same] at e; cases e; exact new
  · rw [upd_ne hb] at e
    refine (x b u e).stay (fun c v _ q => q) (fun c q => ?_) fun c xs q => ?_
    · rw [upd_ne (ne_of_none q hn)]; exact q
    · rw [upd_ne (ne_of_none q hn)]; exact q
theorem HOk.but {P : Program} {w : World} {H : Hp} {h h' : Heap} {C : Addr} (x : HOk P w H h) (hn : H C = none) (k : ∀ b u, b ≠ C → h.get? b = some u → h'.get? b = some u) : HOk P w H h' := fun b u e => by
  refine (x b u e).stay (fun c v hc q => k c v ?_ q) (fun _ q => q) fun _ _ q => q
  rintro rfl
  rcases hc with z | z
  · rw [z, e] at hn; cases hn
  · rw [z] at hn; cases hn
theorem relabel_free {env : Env} : ∀ {names : List (Str × NameKind)} {x : Str}, names.lookup x = some .free →
    (names.map fun (n, k) => if (k == NameKind.free && env.scope.kind == .function && env.kindOf n == some .cell) then (n, NameKind.cell) else (n, k)).lookup x = some .cell ∨
    (names.map fun (n, k) => if (k == NameKind.free && env.scope.kind == .function && env.kindOf n == some .cell) then (n, NameKind.cell) else (n, k)).lookup x = some .free
  | [], _, h => by simp at h
  | (n, k) :: r, x, h => by
    rw [List.map_cons]
    cases hx : x == n with
    | true =>
      rw [List.lookup_cons, hx] at h
      cases h
      dsimp only
      split
      · left; rw [List.lookup_cons, hx]
      · right; rw [List.lookup_cons, hx]
    | false =>
      rw [List.lookup_cons, hx] at h
      have ih := relabel_free (env := env) h
      dsimp only
      split
      · rw [List.lookup_cons, hx]; exact ih
      · rw [List.lookup_cons, hx]; exact ih
theorem relabel_inv {env : Env} : ∀ {names : List (Str × NameKind)} {x : Str} {k' : NameKind}, (k' = .cell ∨ k' = .free) →
    (names.map fun (n, k) => if (k == NameKind.free && env.scope.kind == .function && env.kindOf n == some .cell) then (n, NameKind.cell) else (n, k)).lookup x = some k' → ∃ k, (x, k) ∈ names ∧ (k = .cell ∨ k = .free)
  | [], _, _, _, h => by simp at h
  | (n, k) :: r, x, k', hk, h => by
    rw [List.map_cons] at h
    cases hx : x == n with
    | true =>
      have e : x = n := by simpa using hx
      subst e
      dsimp only at h
      split at h
      · rename_i hc
        have : k = .free := by
          rw [Bool.and_eq_true, Bool.and_eq_true] at hc
          simpa using hc.1.1
        exact ⟨k, List.mem_cons_self .., .inr this⟩
      · rw [List.lookup_cons, hx] at h
        cases h
        exact ⟨k, List.mem_cons_self .., hk⟩
    | false =>
      have h' : (r.map fun (n, k) => if (k == NameKind.free && env.scope.kind == .function && env.kindOf n == some .cell) then (n, NameKind.cell) else (n, k)).lookup x = some k' := by
        dsimp only at h
        split at h
        · rw [List.lookup_cons, hx] at h; exact h
        · rw [List.lookup_cons, hx] at h; exact h
      obtain ⟨k0, h0, h1⟩ := relabel_inv (env := env) hk h'
      exact ⟨k0, List.mem_cons_of_mem _ h0, h1⟩
def cxComp (X : Cx) (N : List Str) (scope : Scope) (cl : List (Str × Addr)) (C : Addr) (s : Shared) (H : Hp) (ex : List Addr) : Cx where
  prog := X.prog
  w := X.w
  K := X.K
  mg := X.mg
  base := X.base
  A := X.A
  N := N
  s₀ := s
  H₀ := H
  env := compEnvC scope cl C X.env
  outer := X.stack
  stack := X.stack
  ex := ex
  fn := fun _ => false
  calm := X.calm
  pn := []
  xe := fun _ _ => False
structure CompScope (sc : Scope) (XN N : List Str) (scope : Scope) (caps : List Nat) : Prop where
  kind : scope.kind = .function
  nd : N.Nodup
  nocell : ∀ y ∈ scope.names, y.2 ≠ .cell
  names : ∀ y ∈ scope.names, y.2 = .local → scope.names.lookup y.1 = some .local
  free : ∀ y ∈ scope.names, y.2 = .free → sc.names.lookup y.1 = some .cell ∨ sc.names.lookup y.1 = some .free
  cap : ∀ (i : Nat), i < caps.length → ∃ x, N[i]? = some x ∧ XN[caps.getD i 0]? = some x ∧ scope.names.lookup x = some .free ∧ (sc.names.lookup x = some .cell ∨ sc.names.lookup x = some .free)
  len : caps.length ≤ N.length
def capStart (caps : List Nat) (n : Nat) (σ : St) : St := caps.map (fun j => (σ[j]?).join) ++ List.replicate (n - caps.length) none
def PF (X : Cx) (ifs : List Expr) (tc : TT) : Prop :=
  ∀ (pins : List (Addr × Obj)) (s : Shared) (σ : St) (H : Hp) (Q : Bool → Hp → Prop), Inv X pins σ H s → tc σ H Q →
    wpAny (model X.prog X.w) X.A (forIn ifs true fun c r => if r = true then do let ok ← isTrue c X.env (eval c X.env); pure (ForInStep.yield ok) else pure (ForInStep.yield r)) (TP X pins σ Q) X.xe s
def tYes : TT := fun _ H Q => Q true H
theorem pf_nil {X : Cx} : PF X [] tYes := fun pins s σ H Q I h => by
  rw [List.forIn_nil]
  exact wpAny_pure ⟨H, I, h⟩
theorem pf_one {X : Cx} {c : Expr} {tc : TT} (hc : PT X c tc) : PF X [c] tc := fun pins s σ H Q I h => by
  rw [List.forIn_cons]
  refine wpAny_bind ?_
  rw [if_pos rfl]
  refine wpAny_bind (thn (hc pins s σ H Q I h) fun ok s1 q => wpAny_pure ?_)
  show wpAny _ _ (forIn [] ok _) _ _ _
  rw [List.forIn_nil]
  exact wpAny_pure q
def tComp (wi : TI) (g : TG) (tc : TT) (te : TE) (caps : List Nat) (n : Nat) : TE := fun σ H Q => wi σ H fun J H1 => ∃ W : Nat → Nat → List V → St → Hp → Prop, (∃ m, W 0 m [] (capStart caps n σ) H1) ∧ ∀ i m acc σ' H', W i m acc σ' H' →
  (J.stop i H' ∧ ∀ D, H' D = none → Q (.ref D) (upd H' D (.lst acc))) ∨
  (J.go i H' ∧ acc.length < sizeLine ∧ ∀ x H2, J.yld i H' x H2 → g x σ' H2 fun σ2 H3 => tc σ2 H3 fun b H4 => if b = true then te σ2 H4 fun y H5 => ∃ m', m' < m ∧ W (i + 1) m' (acc ++ [y]) σ2 H5 else ∃ m', m' < m ∧ W (i + 1) m' acc σ2 H4)
section
variable {X : Cx} {pins : List (Addr × Obj)} {σ : St} {H : Hp} {s : Shared} {N : List Str} {scope : Scope} {cl : List (Str × Addr)} {C : Addr} {fp : List Addr} {caps : List Nat}
theorem comp_ok (I : Inv X pins σ H s) (S : CompScope X.env.scope X.N N scope caps) (h1 : ∀ x c, cl.lookup x = some c → X.env.cells.lookup x = some c) (h2 : ∀ x, (x, NameKind.free) ∈ scope.names → ∃ c, cl.lookup x = some c)
    (hC : s.heap.objs.size ≤ C) (hf : ∀ b ∈ fp, FpOk X pins H b) (hfo : ∀ b ∈ fp, b < s.heap.objs.size) : (cxComp X N scope cl C s H fp).Ok where
  mod := I.ok.mod
  kind := S.kind
  glob := I.ok.glob
  blt := I.ok.blt
  above := hC
  inj := fun x y c a b => I.ok.inj x y c (h1 x c a) (h1 y c b)
  has := fun x hx => by
    have hx' : ∃ k', (k' = NameKind.cell ∨ k' = .free) ∧ (relabel scope X.env).names.lookup x = some k' := by
      rcases hx with z | z
      · exact ⟨_, .inl rfl, z⟩
      · exact ⟨_, .inr rfl, z⟩
    obtain ⟨k', hk, z⟩ := hx'
    obtain ⟨k, m, e⟩ := relabel_inv hk z
    rcases e with e | e
    · exact absurd e (S.nocell _ m)
    · subst e; exact h2 x m
  cab := fun x c z => by cases z
  hd := I.ok.hd
  frames := I.ok.frames
  stk := .inl rfl
  exf := fun b hb => by
    obtain ⟨_, _, _, _, f4, _⟩ := hf b hb
    exact ⟨Nat.ne_of_lt (Nat.lt_of_lt_of_le (hfo b hb) hC), fun x c e => f4 x c (h1 x c e)⟩
  bs := I.bs
  bsz := Nat.le_trans I.ok.bsz I.sz
  noex := fun b o e hb => by
    obtain ⟨_, _, _, f3, _⟩ := hf b hb
    rcases f3 with z | z
    · exact I.ok.noex b o e z
    · exact absurd (Nat.lt_of_lt_of_le (Heap.lt_size e) (Nat.le_trans I.ok.bsz z)) (Nat.lt_irrefl _)
  exfs := fun b hb z => by
    obtain ⟨_, f1, f2, _⟩ := hf b hb
    rcases List.mem_cons.mp (I.stkSub b z) with e | e
    · exact f1 e
    · exact f2 e
  funs := I.stack
  frf := I.stkFree
theorem comp_start {h1 : Heap} {D : Addr} {od : Obj} {t : Nat} {m : Str → Option Value} (I : Inv X pins σ H s) (ok : (cxComp X N scope cl C s H fp).Ok) (S : CompScope X.env.scope X.N N scope caps)
    (hcl : ∀ x c, cl.lookup x = some c → X.env.cells.lookup x = some c) (hcl2 : ∀ x, (x, NameKind.free) ∈ scope.names → ∃ c, cl.lookup x = some c)
    (keep : ∀ b o, s.heap.get? b = some o → h1.get? b = some o) (hn : h1.Ns C m) (hC : s.heap.objs.size ≤ C) (hD : h1.get? D = some od) (hDs : s.heap.objs.size ≤ D) (hDC : D ≠ C) (hdc : ∀ v, od.data ≠ .cell v) :
    Inv (cxComp X N scope cl C s H fp) [(D, od)] (capStart caps N.length σ) H { s with heap := h1, toks := t } := by
  have cellK : ∀ x c, cl.lookup x = some c → ∀ v, s.heap.IsCell c v → h1.IsCell c v := fun x c e v ⟨o, ho, hd⟩ => ⟨o, keep c o ho, hd⟩
  refine ⟨ok, rfl, I.bare, Un.kept keep, ⟨m, hn, fun i x v e1 e2 e3 => ?_⟩, fun x c e => ?_, I.hok.fresh hC, fun x c e => I.freeC x c (hcl x c e), fun p hp => ?_, I.hok.kept keep, ?_⟩
  · have hi : i < caps.length := by
      by_cases hi : i < caps.length
      · exact hi
      · exfalso
        unfold capStart at e2
        rw [List.getElem?_append_right (by simpa using hi), List.getElem?_replicate] at e2
        split at e2 <;> cases e2
    obtain ⟨y, y1, y2, y3, y4⟩ := S.cap i hi
    have exy : x = y := by
      have e1' : N[i]? = some x := e1
      rw [y1] at e1'; exact (Option.some.inj e1').symm
    subst exy
    have e4 : σ[caps.getD i 0]? = some (some v) := by
      unfold capStart at e2
      rw [List.getElem?_append_left (by simpa using hi), List.getElem?_map] at e2
      have : caps[i]? = some (caps.getD i 0) := by rw [List.getD_eq_getElem?_getD]; simp [hi]
      rw [this] at e2
      have e2' : (σ[caps.getD i 0]?).join = some v := by simpa using e2
      cases q : σ[caps.getD i 0]? with
      | none => rw [q] at e2'; cases e2'
      | some z => rw [q] at e2'; have : z = some v := e2'; rw [this]
    obtain ⟨m', _, hl⟩ := I.loc
    obtain ⟨u, r, l⟩ := hl _ x v y2 e4 (y4.elim (fun z => .inr (.inl z)) fun z => .inr (.inr z))
    refine ⟨u, r, ?_⟩
    have nl : X.env.kindOf x ≠ some .local := by
      rcases y4 with z | z
      · show X.env.scope.names.lookup x ≠ _; rw [z]; decide
      · show X.env.scope.names.lookup x ≠ _; rw [z]; decide
    rcases l with ⟨k, _⟩ | ⟨_, c, hc, z⟩
    · exact absurd k nl
    · obtain ⟨c', hc'⟩ := hcl2 x (PySem.mem_of_lookup y3)
      have : c = c' := Option.some.inj (hc.symm.trans (hcl x c' hc'))
      subst this
      refine .inr ⟨?_, c, hc', cellK x c hc' _ z⟩
      exact relabel_free (env := X.env) y3
  · obtain ⟨v, z⟩ := I.cell x c (hcl x c e)
    exact ⟨v, cellK x c e v z⟩
  · have : p = (D, od) := by
      have hp' : p ∈ [(D, od)] := hp
      simpa using hp'
    subst this
    refine ⟨hD, I.hok.fresh hDs, hDC, fun z => ?_, hdc⟩
    have z' : D ∈ frs X.stack := z
    obtain ⟨_, o, ho, _⟩ := I.stack.mem z'
    exact absurd (Nat.lt_of_lt_of_le (Heap.lt_size ho) hDs) (Nat.lt_irrefl _)
  · unfold capStart
    show _ = N.length
    rw [List.length_append, List.length_map, List.length_replicate]
    have := S.len
    omega
end
section
variable {X : Cx}
theorem pe_comp {tg iter elt : Expr} {ifs : List Expr} {scope : Scope} {pos : Pos} {wi : TI} {g : TG} {tc : TT} {te : TE} {N : List Str} {caps : List Nat} (hc : X.calm = true) (S : CompScope X.env.scope X.N N scope caps)
    (hi : PI X tg iter wi) (hg : ∀ cl C s H ex, PG (cxComp X N scope cl C s H ex) tg g) (hf : ∀ cl C s H ex, PF (cxComp X N scope cl C s H ex) ifs tc) (he : ∀ cl C s H ex, PE (cxComp X N scope cl C s H ex) elt te)
    (hs : ∀ x, foldedSetIterable iter X.env x = pure x := by intro _; rfl) : PE X (.ListComp elt [⟨tg, iter, ifs, 0⟩] scope pos) (tComp wi g tc te caps N.length) := by
  intro pins s σ H Q I h
  obtain ⟨cl, hcl, hcl1, hcl2⟩ := closure_of (env := X.env) (scope := scope) fun y hy e => I.ok.has y.1 (S.free y hy e)
  rw [eval_ListComp]
  refine wpAny_comprehension_free (use := none) rfl hs hcl S.kind S.names (thn (hi pins s σ H _ I h) fun v s1 h1 => thn h1 fun itv s2 h2 => ?_)
  obtain ⟨it, fp, tn, J, H2, e, I2, T, st2, f2, W, ⟨m0, w0⟩, turn⟩ := h2
  subst e
  refine wpAny_newObj_type (wpAny_newFunctionEnv S.nocell (by intro y hy; simp at hy) (fun h₁ hns hsb => ?_) S.kind)
  dsimp only at hns hsb ⊢
  generalize hG : s2.heap.push { cls := .type "list", dict := none, data := .seq ([] : List Value).toArray } = G at hns hsb ⊢
  have hCs : G.objs.size = s2.heap.objs.size + 1 := by rw [← hG, Heap.size_push]
  have hDC : s2.heap.objs.size ≠ G.objs.size := by rw [hCs]; exact Nat.ne_of_lt (Nat.lt_succ_self _)
  have old : ∀ b o, s2.heap.get? b = some o → h₁.get? b = some o := fun b o e => by
    have hb := Heap.lt_size e
    refine hsb.extBut b o (by rw [hCs]; exact Nat.ne_of_lt (Nat.lt_succ_of_lt hb)) (Heap.get?_push_of_some _ ?_)
    rw [← hG]
    exact Heap.get?_push_of_some _ e
  have hD : h₁.get? s2.heap.objs.size = some { cls := .type "list", dict := none, data := .seq ([] : List Value).toArray } := by
    refine hsb.extBut _ _ hDC (Heap.get?_push_of_some _ ?_)
    rw [← hG]
    exact Heap.get?_push_size _ rfl
  have hfo : ∀ b ∈ fp, b < s2.heap.objs.size := fun b hb => let ⟨o, e, _⟩ := T.obj 0 _ st2 b hb; Heap.lt_size e
  have hCle : s2.heap.objs.size ≤ G.objs.size := by omega
  have ok := comp_ok (C := G.objs.size) I2 S hcl1 hcl2 hCle f2 hfo
  have I0 : Inv (cxComp X N scope cl G.objs.size s2 H2 fp) [(s2.heap.objs.size, { cls := .type "list", dict := none, data := .seq ([] : List Value).toArray })] (capStart caps N.length σ) H2 { s2 with heap := h₁, toks := s2.toks + ([] : List (Str × Value)).length } :=
    comp_start I2 ok S hcl1 hcl2 old hns hCle hD (Nat.le_refl _) hDC (fun v z => by cases z)
  have st1 : tn 0 h₁ := T.keep 0 _ _ st2 fun b _ o e => old b o e
  generalize hX : cxComp X N scope cl G.objs.size s2 H2 fp = X' at I0
  generalize hDa : s2.heap.objs.size = D at I0 hD hDC
  have loop : codeAny (model X.prog X.w) X.A (.compLoop (.ListComp elt [⟨tg, iter, ifs, 0⟩] scope pos) 0 (.ref it) (.ref D) (compEnvC scope cl G.objs.size X.env)) (compPost (model X.prog X.w) X.A X.xe none (EP X pins σ Q) (.ref D) G.objs.size)
      { s2 with heap := h₁, toks := s2.toks + ([] : List (Str × Value)).length } := by
    subst hX
    refine loop_comp (J := fun n s' => ∃ i σ' H' acc its e, Inv (cxComp X N scope cl G.objs.size s2 H2 fp) [(D, { cls := .type "list", data := .seq (List.toArray its) e })] σ' H' s' ∧ Vals acc its ∧ acc.length ≤ sizeLine ∧ tn i s'.heap ∧ (∀ b ∈ fp, H' b = none) ∧ W i n acc σ' H')
      ?_ m0 ⟨0, _, H2, [], [], 0, I0, .nil, Nat.zero_le _, st1, fun b hb => (f2 b hb).1, w0⟩
    rintro n s3 ⟨i, σ3, H3, acc, its, ep, I3, rv, hz, st3, fr3, w3⟩
    have stat : ∀ {H' : Hp} {pl : List (Addr × Obj)}, (∀ b ∈ fp, H' b = none) → (∀ p ∈ pl, p.1 = D) → ∀ b ∈ fp, FpOk (cxComp X N scope cl G.objs.size s2 H2 fp) pl H' b := fun {H' pl} hn hpl b hb => by
      obtain ⟨a1, a2⟩ := ok.exf b hb
      exact ⟨hn b hb, a1, ok.exfs b hb, .inl hb, fun x c e => a2 x c e, fun p hp => by
        have hp' : p ∈ pl := hp
        rw [hpl p hp', ← hDa]
        exact Nat.ne_of_gt (hfo b hb)⟩
    have one : ∀ p ∈ [(D, ({ cls := .type "list", data := .seq (List.toArray its) ep } : Obj))], p.1 = D := fun p hp => by
      rcases List.mem_cons.mp hp with e | e
      · rw [e]
      · cases e
    have pinD : ∀ {pl : List (Addr × Obj)} {σ' : St} {H' : Hp} {s' : Shared} {o : Obj}, Inv (cxComp X N scope cl G.objs.size s2 H2 fp) pl σ' H' s' → (D, o) ∈ pl → s'.heap.get? D = some o ∧ H' D = none := fun {pl σ' H' s' o} I' hm => by
      obtain ⟨a, b, _⟩ := I'.pin (D, o) (List.mem_append_right _ hm)
      exact ⟨a, b⟩
    rcases turn i n acc σ3 H3 w3 with ⟨stop, q⟩ | ⟨go, hlt, step⟩
    · refine wpAny_mono (T.done (cxComp X N scope cl G.objs.size s2 H2 fp) rfl rfl rfl hc i _ s3 σ3 H3 (fun _ _ => False) I3 (stat fr3 one) st3 stop) (fun r s4 ⟨hr, I4⟩ => ?_) fun _ _ f => f
      subst hr
      obtain ⟨hDo, hDn⟩ := pinD I4 (List.mem_cons_self ..)
      obtain ⟨m4, hm4, _⟩ := I4.loc
      refine ⟨m4, hm4, fun h' hsb' => ?_⟩
      have keepC : ∀ b u, b ≠ G.objs.size → s4.heap.get? b = some u → h'.get? b = some u := fun b u hb e => hsb'.extBut b u hb e
      have un : Un (frs X.stack) fp H2 H3 s2.heap s4.heap := I4.base
      have hDo' : h'.get? D = some { cls := .type "list", data := .seq (List.toArray its) ep } := keepC D _ hDC hDo
      have hlow : ∀ b (o : Obj), s2.heap.get? b = some o → b ≠ G.objs.size ∧ b ≠ D := fun b o e => by
        have h0 := Heap.lt_size e
        exact ⟨by rw [hCs]; exact Nat.ne_of_lt (Nat.lt_succ_of_lt h0), by rw [← hDa]; exact Nat.ne_of_lt h0⟩
      have un' : Un (frs X.stack) fp H2 (upd H3 D (.lst acc)) s2.heap h' :=
        ⟨fun b o e n' hb hx => keepC b o (hlow b o e).1 (un.keep b o e n' hb hx),
         fun b o e n' hb hx => let ⟨sl, q⟩ := un.slot b o e n' hb hx; ⟨sl, keepC b _ (hlow b o e).1 q⟩,
         fun b o e n' hx => by rw [upd_ne (hlow b o e).2]; exact un.free b o e n' hx,
         fun b o e hx => let ⟨o', q⟩ := un.there b o e hx; ⟨o', keepC b _ (hlow b o e).1 q⟩,
         fun b xs e => by rw [upd_ne (ne_of_none (un.tups b xs e) hDn)]; exact un.tups b xs e,
         fun b o u e => by rw [upd_ne (ne_of_none (un.frzs b o u e) hDn)]; exact un.frzs b o u e,
         fun b ps e => let ⟨mo, q⟩ := un.tbls b ps e; ⟨mo, by rw [upd_ne (ne_of_none q hDn)]; exact q⟩⟩
      have hok : HOk X.prog X.w (upd H3 D (.lst acc)) h' := (I4.hok.but I4.free keepC).track hDn ⟨hz, its, ep, rv, hDo'⟩
      refine ⟨.ref D, upd H3 D (.lst acc), I2.call' (s' := { s4 with heap := h' }) I4.os un' hok I4.bare (fun b hb => ?_), rfl, q D hDn⟩
      obtain ⟨_, f1, _, f3, f4, f5⟩ := f2 b hb
      exact ⟨f3, f1, f4, f5⟩
    · refine wpAny_mono (T.item (cxComp X N scope cl G.objs.size s2 H2 fp) rfl rfl rfl hc i _ s3 σ3 H3 (fun _ _ => False) I3 (stat fr3 one) st3 go) (fun r s4 ⟨u, hr, h4⟩ => ?_) fun _ _ f => f
      subst hr
      refine thn h4 fun _ s5 ⟨x, H5, I5, r5, y5, st5, fr5⟩ => ?_
      have I5' := I5.pinned (stat fr5 one) (T.obj _ _ st5)
      refine thn (hg cl G.objs.size s2 H2 fp _ s5 σ3 H5 x u _ I5' r5 (step x H5 y5)) fun _ s6 ⟨σ6, H6, I6, q6⟩ => ?_
      refine thn (hf cl G.objs.size s2 H2 fp _ s6 σ6 H6 _ I6 q6) fun b s7 ⟨H7, I7, q7⟩ => ?_
      have fin : ∀ {pl : List (Addr × Obj)} {σ' : St} {H' : Hp} {s' : Shared}, Inv (cxComp X N scope cl G.objs.size s2 H2 fp) (pl ++ pinsAt fp s5.heap) σ' H' s' → tn (i + 1) s'.heap ∧ ∀ b ∈ fp, H' b = none := fun {pl σ' H' s'} I' => by
        refine ⟨T.keep _ _ _ st5 fun b hb o e => (I'.pin (b, o) (List.mem_append_right _ (List.mem_append_right _ (mem_pinsAt hb e)))).1, fun b hb => ?_⟩
        obtain ⟨o, e, _⟩ := T.obj _ _ st5 b hb
        exact (I'.pin (b, o) (List.mem_append_right _ (List.mem_append_right _ (mem_pinsAt hb e)))).2.1
      cases b with
      | false =>
        rw [if_neg Bool.false_ne_true] at q7 ⊢
        obtain ⟨m', hm, w7⟩ := q7
        obtain ⟨a1, a2⟩ := fin I7
        exact ⟨m', hm, i + 1, σ6, H7, acc, its, ep, I7.unpinned, rv, hz, a1, a2, w7⟩
      | true =>
        rw [if_pos rfl] at q7 ⊢
        refine thn (he cl G.objs.size s2 H2 fp _ s7 σ6 H7 _ I7 q7) fun y s8 ⟨yv, H8, I8, r8, m', hm, w8⟩ => ?_
        obtain ⟨a1, a2⟩ := fin I8
        obtain ⟨b1, b2⟩ := pinD I8 (List.mem_append_left _ (List.mem_cons_self ..))
        have hl := rv.length
        refine call_meets F.slot_list_append ⟨_, b1, rfl⟩ F.entry_list_append (F.args_list_append_2 _ _) (PySem.list_append D its.toArray ep y (by rw [List.size_toArray]; omega)) ⟨b1, ?_⟩
        have q9 := PySem.IsL.update b1 (·.push y)
        have kp : ∀ b o, b ≠ D → s8.heap.get? b = some o → (s8.heap.update D (Obj.mapSeq (·.push y))).get? b = some o := fun b o hb e => (Heap.get?_update_other s8.heap (Obj.mapSeq (·.push y)) (Ne.symm hb)).trans e
        have I9 : Inv (cxComp X N scope cl G.objs.size s2 H2 fp) [] σ6 H8 { s8 with heap := s8.heap.update D (Obj.mapSeq (·.push y)) } :=
          (I8.pins_of (pins' := []) fun p hp => by cases hp).turned (t' := s8.toks) kp b2 hDC (.inr (by rw [← hDa]; exact Nat.le_refl _)) (fun x c e z => by
            have e' : X.env.cells.lookup x = some c := hcl1 x c e
            obtain ⟨v', hv'⟩ := I2.cell x c e'
            have h0 := hv'.lt
            rw [z, ← hDa] at h0
            exact Nat.lt_irrefl _ h0) fun p hp => by
              have : p ∈ ([] : List (Addr × Obj)) := hp
              cases this
        have hpu : its.toArray.push y = (its ++ [y]).toArray := by simp
        rw [hpu] at q9
        obtain ⟨e9, q9⟩ : ∃ e9, (s8.heap.update D (Obj.mapSeq (·.push y))).get? D = some { cls := .type "list", data := .seq (its ++ [y]).toArray e9 } := ⟨_, q9⟩
        refine ⟨m', hm, i + 1, σ6, H8, acc ++ [yv], its ++ [y], e9, I9.pins_of fun p hp => ?_, rv.append (.cons r8 .nil), ?_, T.keep _ _ _ a1 fun b hb o e => kp b o ?_ e, a2, w8⟩
        · obtain rfl : p = (D, { cls := .type "list", data := .seq (its ++ [y]).toArray e9 }) := by
            rcases List.mem_cons.mp hp with e | e
            · exact e
            · cases e
          obtain ⟨_, _, c3, c4, _⟩ := I8.pin (D, _) (List.mem_append_right _ (List.mem_append_left _ (List.mem_cons_self ..)))
          exact ⟨q9, b2, c3, c4, fun v z => by cases z⟩
        · rw [List.length_append, List.length_singleton]; omega
        · rintro rfl
          have h0 := hfo b hb
          rw [hDa] at h0
          exact Nat.lt_irrefl _ h0
  exact codeAny_compStart_list loop (T.self X.A 0 _ _ _ st1 loop)
end
end L2
end
section
set_option Elab.async false
set_option linter.all false
set_option maxRecDepth 100000
set_option maxHeartbeats 1000000
namespace MyS
open PySem PySem.W PyProof.Rows PySem.Spec
theorem kas_of {α : Type} {N : Nat} {cmp : Nat → Nat → (Bool → Shared → Prop) → Shared → Prop} {lt : Nat → Nat → Bool} {s : Shared} (hc : ∀ i j, i < N → j < N → i ≠ j → ∀ C, C (lt i j) s → cmp i j C s) :
    ∀ (t : KasT α) (Q : α → Shared → Prop), okT lt N t → Q (ev lt t) s → t.kasWp cmp Q s
  | .ret a, Q, _, h => h
  | .ask i j k, Q, o, h => hc i j o.1 o.2.1 o.2.2.1 _ (kas_of hc (k (lt i j)) Q o.2.2.2 h)
def keyAt (ks : List Str) (i : Nat) : List Nat := (ks.getD i ⟨#[]⟩).cps.toList
def ltAt (ks : List Str) (i j : Nat) : Bool := decide (keyAt ks i < keyAt ks j)
theorem Str_ext {a b : Str} (h : a.cps.toList = b.cps.toList) : a = b := by
  cases a; cases b
  congr 1
  exact Array.toList_inj.mp h
theorem lt_tri (a b : List Nat) (h1 : ¬ a < b) (h2 : ¬ b < a) : a = b := by
  have h1' : b ≤ a := List.not_lt.mp h1
  have h2' : a ≤ b := List.not_lt.mp h2
  exact List.le_antisymm h2' h1'
theorem ltAt_total {ks : List Str} (nd : ks.Nodup) : TotalOn (ltAt ks) ks.length where
  irr := fun i _ => by simp [ltAt, List.lt_irrefl]
  tr := fun i j k _ _ _ h1 h2 => by
    simp only [ltAt, decide_eq_true_eq] at *
    exact List.lt_trans h1 h2
  tot := fun i j hi hj hne => by
    simp only [ltAt, decide_eq_true_eq]
    by_cases h1 : keyAt ks i < keyAt ks j
    · exact .inl h1
    · by_cases h2 : keyAt ks j < keyAt ks i
      · exact .inr h2
      · exfalso
        have e := lt_tri _ _ h1 h2
        unfold keyAt at e
        have e' := Str_ext e
        have e1 : ks.getD i ⟨#[]⟩ = ks[i] := by simp [hi]
        have e2 : ks.getD j ⟨#[]⟩ = ks[j] := by simp [hj]
        rw [e1, e2] at e'
        exact hne ((List.getElem_inj nd).mp e')
def PairAt (h : Heap) (a : Addr) (v : Value) (k : Str) : Prop := ∃ b o t x n, v = Value.ref b ∧ b ≠ a ∧ h.get? b = some o ∧ o.cls = .type "tuple" ∧ o.data = .seq #[.str k t, x] n
theorem PairAt.keep {h h' : Heap} {a : Addr} {v : Value} {k : Str} (p : PairAt h a v k) (e : ∀ b o, b ≠ a → h.get? b = some o → h'.get? b = some o) : PairAt h' a v k := by
  obtain ⟨b, o, t, x, n, h1, h2, h3, h4⟩ := p
  exact ⟨b, o, t, x, n, h1, h2, e b o h2 h3, h4⟩
section
variable {prog : Program} {w : World} {A : Around} {E : Value → Shared → Prop} {s : Shared}
end
section
variable {prog : Program} {w : World} {A : Around} {E : Value → Shared → Prop} {s : Shared}
theorem sort_gen {κ : SortKind} {a : Addr} {vs : List Value} {ks : List Str} {n : Nat} {P : PySem.Fin → Shared → Prop} (ho : s.heap.get? a = some (seqObj "list" vs.toArray n)) (hl : ks.length = vs.length) (nd : ks.Nodup) (h64 : vs.length < 64)
    (hK : ∀ G, (∀ b o, b ≠ a → s.heap.get? b = some o → G.get? b = some o) → 2 ≤ vs.length → ∀ (Q : SortKind → Shared → Prop) (E' : Value → Shared → Prop), Q κ { s with heap := G } → wpAny (model prog w) A (keyKind' vs.toArray) Q E' { s with heap := G })
    (hC : ∀ G, (∀ b o, b ≠ a → s.heap.get? b = some o → G.get? b = some o) → ∀ i j, i < vs.length → j < vs.length → i ≠ j → ∀ C, C (ltAt ks i j) { s with heap := G } → kas_ask prog w A κ vs i j C { s with heap := G })
    (h : ∀ (p : List Nat) (h' : Heap) (e : Nat), p.Perm (List.range vs.length) → (p.map (keyAt ks)).Pairwise (· < ·) → (∀ b o, b ≠ a → s.heap.get? b = some o → h'.get? b = some o) →
      h'.get? a = some (seqObj "list" (p.map fun i => vs.getD i Value.none).toArray e) → P (.done (.ret .none)) { s with heap := h' }) :
    wpAny (model prog w) A (Builtin.«list.sort» ⟨[.ref a], []⟩) P E s := by
  have ha : a < s.heap.objs.size := Heap.lt_size ho
  rw [list_sort_plain]
  refine wpAny_bind (listItems_at ho rfl ?_)
  refine wpAny_bind (listUpdate_at ho rfl ?_ (by rw [List.size_toArray, sizeLine_eq]; omega) (Nat.zero_le _))
  obtain ⟨e1, ho1⟩ : ∃ e1, (s.heap.update a (Obj.mapSeq fun _ => (#[] : Array Value))).get? a = some (seqObj "list" #[] e1) := ⟨_, get?_update_seq ho fun _ => #[]⟩
  refine wpAny_bind (seqEpoch_at ho1 rfl ?_)
  refine wpAny_bind (wpAny_newTuple ?_ (by rw [sizeLine_eq]; simp; omega))
  refine wpAny_bind (wpAny_newList ?_ (by simp))
  refine wpAny_holding ?_
  show wpAny (model prog w) A _ P E { s with heap := ((s.heap.update a (Obj.mapSeq fun _ => #[])).push (seqObj "tuple" vs.toArray 0)).push (seqObj "list" #[] 0) }
  generalize hG : ((s.heap.update a (Obj.mapSeq fun _ => (#[] : Array Value))).push (seqObj "tuple" vs.toArray 0)).push (seqObj "list" #[] 0) = G
  have hG1 : G.get? a = some (seqObj "list" #[] e1) := by
    rw [← hG]
    exact Heap.get?_push_of_some _ (Heap.get?_push_of_some _ ho1)
  have hG2 : ∀ b o, b ≠ a → s.heap.get? b = some o → G.get? b = some o := fun b o hb e => by
    rw [← hG]
    exact Heap.get?_push_of_some _ (Heap.get?_push_of_some _ ((Heap.get?_update_other _ _ (Ne.symm hb)).trans e))
  have hsz : vs.toArray.size = vs.length := by simp
  have fin : ∀ (p : List Nat) (out : Array Value) (hout : out = (p.map fun i => vs.getD i Value.none).toArray), p.Perm (List.range vs.length) → (p.map (keyAt ks)).Pairwise (· < ·) →
      P (.done (.ret .none)) { s with heap := G.update a (Obj.mapSeq fun _ => out) } := fun p out hout h1 h2 => by
    subst hout
    have e3 := get?_update_seq hG1 fun _ => (p.map fun i => vs.getD i Value.none).toArray
    exact h p _ _ h1 h2 (fun b o hb e => (Heap.get?_update_other _ _ (Ne.symm hb)).trans (hG2 b o hb e)) e3
  dsimp only
  by_cases h2 : vs.toArray.size < 2
  · rw [if_pos h2, if_pos h2]
    refine wpAny_bind (wpAny_pure ?_)
    rw [StateT.run_pure]
    refine wpAny_bind (wpAny_pure ?_)
    dsimp only
    refine wpAny_bind (seqEpoch_at hG1 rfl ?_)
    refine wpAny_bind (listUpdate_at hG1 rfl ?_ (by simp) (by
      show ((vs.toArray.zip vs.toArray).map (·.2)).size ≤ sizeLine + 1
      rw [sizeLine_eq]; simp; omega))
    simp only [bne_self_eq_false, Bool.false_eq_true, if_false]
    refine wpAny_pure (fin (List.range vs.length) _ ?_ (List.Perm.refl _) ?_)
    · show (vs.toArray.zip vs.toArray).map (·.2) = _
      match vs, h2 with
      | [], _ => simp
      | [v], _ => simp [List.range_succ]
      | _ :: _ :: _, h2 => simp at h2; omega
    · have : vs.length < 2 := by simpa using h2
      match hv : vs.length, this with
      | 0, _ => simp
      | 1, _ => simp [List.range_succ]
  · rw [if_neg h2, if_neg h2]
    have h2' : 2 ≤ vs.length := by simpa using h2
    refine wpAny_bind (hK G hG2 h2' _ _ ?_)
    show wpAny _ _ (StateT.run sortRuns' (SortSt.mk' κ (vs.toArray.zip vs.toArray) #[] 7 none) >>= _) _ _ _
    have O := ltAt_total nd
    rw [hl] at O
    obtain ⟨so1, so2⟩ := sort_ok O h2'
    refine wpAny_bind (wpAny_mono (kat_run (ks := vs) (vs := vs) (Q := fun st' s' => s' = { s with heap := G } ∧ failedOf st' = none ∧ ∃ p : Array Nat, Pm p vs.length ∧ Up (ltAt ks) p vs.length ∧ arrOf st' = p.map (kas_item (vs.toArray.zip vs.toArray)))
      (G := fun p s' => s' = { s with heap := G } ∧ Pm p vs.length ∧ Up (ltAt ks) p vs.length) rfl h2' h64 (fun p st' s' _ q1 q2 q3 => ⟨q3.1, q2, p, q3.2.1, q3.2.2, q1⟩) ?_) ?_ fun _ _ e => e)
    · refine kas_of (N := vs.length) (lt := ltAt ks) (fun i j hi hj hij C hC' => ?_) _ _ (sort_t O h2') ⟨rfl, so1, so2⟩
      exact hC G hG2 i j hi hj hij C hC'
    · rintro ⟨⟨⟩, st'⟩ s' ⟨rfl, hf, p, q1, q2, q3⟩
      dsimp only
      have hout := kat_snds (ks := vs) (vs := vs) rfl q3
      refine wpAny_bind (seqEpoch_at hG1 rfl ?_)
      refine wpAny_bind (listUpdate_at hG1 rfl ?_ (by simp) (by
        rw [hout, List.size_toArray, List.length_map, sizeLine_eq]
        have := q1.size
        simp
        omega))
      rw [hf]
      simp only [bne_self_eq_false, Bool.false_eq_true, if_false]
      refine wpAny_pure (fin p.toList _ hout q1 ?_)
      rw [List.pairwise_map, List.pairwise_iff_getElem]
      intro i j hi hj hij
      have hi' : i < p.size := by simpa using hi
      have hj' : j < p.size := by simpa using hj
      have := q2 i j hij (by rw [← q1.size]; exact hj')
      rw [gg_eq hi', gg_eq hj'] at this
      simpa [ltAt] using this
end
section
variable {prog : Program} {w : World} {A : Around} {E : Value → Shared → Prop} {s : Shared}
theorem sort_strs {a : Addr} {vs : List Value} {ks : List Str} {n : Nat} {P : PySem.Fin → Shared → Prop} (ho : s.heap.get? a = some (seqObj "list" vs.toArray n)) (hS : StrsAre vs ks) (nd : ks.Nodup) (h64 : vs.length < 64)
    (h : ∀ (p : List Nat) (h' : Heap) (e : Nat), p.Perm (List.range vs.length) → (p.map (keyAt ks)).Pairwise (· < ·) → (∀ b o, b ≠ a → s.heap.get? b = some o → h'.get? b = some o) →
      h'.get? a = some (seqObj "list" (p.map fun i => vs.getD i Value.none).toArray e) → P (.done (.ret .none)) { s with heap := h' }) :
    wpAny (model prog w) A (Builtin.«list.sort» ⟨[.ref a], []⟩) P E s := by
  have hlen : ks.length = vs.length := by rw [← hS.strs]; simp
  have hget : ∀ i, i < vs.length → ∃ t, vs.getD i Value.none = .str (ks.getD i ⟨#[]⟩) t := fun i hi => by
    obtain ⟨x, t, e⟩ := hS.all vs[i] (List.getElem_mem hi)
    refine ⟨t, ?_⟩
    have e1 : vs.getD i Value.none = vs[i] := by simp [hi]
    have e2 : ks.getD i ⟨#[]⟩ = x := by
      rw [← hS.strs, List.getD_eq_getElem?_getD, List.getElem?_map, List.getElem?_eq_getElem hi, e]; rfl
    rw [e1, e2, e]
  refine sort_gen (κ := oneType') ho hlen nd h64 (fun G hG h2 Q E' hQ => ?_) (fun G hG i j hi hj hij C hC => ?_) h
  · obtain ⟨v₁, v₂, rest, rfl⟩ : ∃ v₁ v₂ rest, vs = v₁ :: v₂ :: rest := by
      match vs, h2 with
      | v₁ :: v₂ :: rest, _ => exact ⟨v₁, v₂, rest, rfl⟩
    rw [keyKind_strs hS]
    exact wpAny_pure hQ
  · obtain ⟨t, e⟩ := hget i hi
    obtain ⟨t', e'⟩ := hget j hj
    unfold kas_ask
    rw [e, e', keyLt'_oneType]
    exact strKind_oneLt prog w A _ _ _ _ _ _ rfl rfl hC
end
end MyS
end
section
set_option Elab.async false
set_option linter.all false
set_option maxRecDepth 100000
set_option maxHeartbeats 1000000
namespace L2
open PySem PySem.Spec PyProof.Rows
theorem Same.seqT {K : PySem.W.Frag} {H H' : Hp} {a : Addr} {xs : List V} (e : Same H H') (h : SqT K H a xs) : SqT K H' a xs := by
  rcases h with (h | ⟨o, h⟩) | h
  · exact .inl (.inl (e _ _ h))
  · exact .inl (.inr ⟨o, e _ _ h⟩)
  · exact .inr h
mutual
def Rep (K : PySem.W.Frag) (H : Hp) : PyData → V → Prop
  | .none, v => v = .non
  | .bool b, v => v = .bl b
  | .int i, v => v = .int i
  | .str x, v => v = .str x
  | .list ds, v => ∃ a xs, v = .ref a ∧ SqL K H a xs ∧ Reps K H ds xs
  | .tuple ds, v => ∃ a xs, v = .ref a ∧ SqT K H a xs ∧ Reps K H ds xs
  | .dict _, _ => False
def Reps (K : PySem.W.Frag) (H : Hp) : List PyData → List V → Prop
  | [], xs => xs = []
  | d :: ds, xs => ∃ y ys, xs = y :: ys ∧ Rep K H d y ∧ Reps K H ds ys
end
mutual
theorem Rep.same {K : PySem.W.Frag} {H H' : Hp} (e : Same H H') : ∀ (d : PyData) (v : V), Rep K H d v → Rep K H' d v
  | .none, v, h => h
  | .bool b, v, h => h
  | .int i, v, h => h
  | .str x, v, h => h
  | .list ds, v, h => by
    obtain ⟨a, xs, h1, h2, h3⟩ := h
    exact ⟨a, xs, h1, e.seq h2, Reps.same e ds xs h3⟩
  | .tuple ds, v, h => by
    obtain ⟨a, xs, h1, h2, h3⟩ := h
    exact ⟨a, xs, h1, e.seqT h2, Reps.same e ds xs h3⟩
  | .dict _, v, h => h
theorem Reps.same {K : PySem.W.Frag} {H H' : Hp} (e : Same H H') : ∀ (ds : List PyData) (xs : List V), Reps K H ds xs → Reps K H' ds xs
  | [], xs, h => h
  | d :: ds, xs, h => by
    obtain ⟨y, ys, h1, h2, h3⟩ := h
    exact ⟨y, ys, h1, Rep.same e d y h2, Reps.same e ds ys h3⟩
end
theorem Reps.length {K : PySem.W.Frag} {H : Hp} : ∀ {ds : List PyData} {xs : List V}, Reps K H ds xs → ds.length = xs.length
  | [], xs, h => by rw [show xs = [] from h]; rfl
  | d :: ds, xs, h => by
    obtain ⟨y, ys, h1, _, h3⟩ := h
    rw [h1, List.length_cons, List.length_cons, Reps.length h3]
theorem Reps.get {K : PySem.W.Frag} {H : Hp} : ∀ {ds : List PyData} {xs : List V} {i : Nat} {y : V}, Reps K H ds xs → xs[i]? = some y → ∃ d, ds[i]? = some d ∧ Rep K H d y
  | [], xs, i, y, h, e => by rw [show xs = [] from h] at e; simp at e
  | d :: ds, xs, i, y, h, e => by
    obtain ⟨z, zs, h1, h2, h3⟩ := h
    subst h1
    cases i with
    | zero =>
      have : z = y := by simpa using e
      subst this
      exact ⟨d, rfl, h2⟩
    | succ i =>
      obtain ⟨d', e1, e2⟩ := Reps.get (i := i) h3 (by simpa using e)
      exact ⟨d', by simpa using e1, e2⟩
theorem Reps.append {K : PySem.W.Frag} {H : Hp} : ∀ {ds es : List PyData} {xs ys : List V}, Reps K H ds xs → Reps K H es ys → Reps K H (ds ++ es) (xs ++ ys)
  | [], es, xs, ys, h, h' => by rw [show xs = [] from h]; exact h'
  | d :: ds, es, xs, ys, h, h' => by
    obtain ⟨z, zs, h1, h2, h3⟩ := h
    subst h1
    exact ⟨z, zs ++ ys, rfl, h2, Reps.append h3 h'⟩
theorem Reps.one {K : PySem.W.Frag} {H : Hp} {d : PyData} {v : V} (h : Rep K H d v) : Reps K H [d] [v] := ⟨v, [], rfl, h, rfl⟩
theorem Reps.drop {K : PySem.W.Frag} {H : Hp} : ∀ {ds : List PyData} {xs : List V} (k : Nat), Reps K H ds xs → Reps K H (ds.drop k) (xs.drop k)
  | [], xs, k, h => by rw [show xs = [] from h]; simp [Reps]
  | d :: ds, xs, 0, h => h
  | d :: ds, xs, k + 1, h => by
    obtain ⟨z, zs, h1, _, h3⟩ := h
    subst h1
    exact Reps.drop k h3
theorem Reps.take {K : PySem.W.Frag} {H : Hp} : ∀ {ds : List PyData} {xs : List V} (k : Nat), Reps K H ds xs → Reps K H (ds.take k) (xs.take k)
  | [], xs, k, h => by rw [show xs = [] from h]; simp [Reps]
  | d :: ds, xs, 0, h => by simp [Reps]
  | d :: ds, xs, k + 1, h => by
    obtain ⟨z, zs, h1, h2, h3⟩ := h
    subst h1
    exact ⟨z, zs.take k, rfl, h2, Reps.take k h3⟩
theorem Reps.strs {K : PySem.W.Frag} {H : Hp} : ∀ {ss : List Str} {xs : List V}, Reps K H (ss.map PyData.str) xs ↔ xs = ss.map V.str
  | [], xs => Iff.rfl
  | s :: ss, xs => by
    constructor
    · rintro ⟨y, ys, h1, h2, h3⟩
      have h2' : y = .str s := h2
      rw [h1, h2', Reps.strs.mp h3]; rfl
    · intro e
      exact ⟨.str s, ss.map V.str, e, rfl, Reps.strs.mpr rfl⟩
section
variable {X : Cx} {pins : List (Addr × Obj)} {σ : St} {H : Hp} {s : Shared}
mutual
theorem Rep.reads (I : Inv X pins σ H s) : ∀ (d : PyData) (v : V) (u : Value), Rep X.K H d v → RelV v u → ∃ as, Reads s.heap u d as
  | .none, v, u, h, r => by
    have h' : v = .non := h
    subst h'
    cases r
    exact ⟨_, .none⟩
  | .bool b, v, u, h, r => by
    have h' : v = .bl b := h
    subst h'
    cases r
    exact ⟨_, .bool b⟩
  | .int i, v, u, h, r => by
    have h' : v = .int i := h
    subst h'
    obtain ⟨t, rfl⟩ := r
    exact ⟨_, .int i t⟩
  | .str x, v, u, h, r => by
    have h' : v = .str x := h
    subst h'
    obtain ⟨t, rfl⟩ := r
    exact ⟨_, .str x t⟩
  | .list ds, v, u, h, r => by
    obtain ⟨a, xs, h1, h2, h3⟩ := h
    subst h1
    cases r
    obtain ⟨its, rv, ⟨o, n, e, hc, _, hd⟩, _⟩ := I.list h2
    obtain ⟨as, ra⟩ := Reps.reads I ds xs its h3 rv
    exact ⟨_, .list e hc hd (by simpa using ra)⟩
  | .tuple ds, v, u, h, r => by
    obtain ⟨a, xs, h1, h2, h3⟩ := h
    subst h1
    cases r
    obtain ⟨its, rv, ⟨o, e, hc, n, hd⟩, _⟩ := I.tuple h2
    obtain ⟨as, ra⟩ := Reps.reads I ds xs its h3 rv
    exact ⟨_, .tuple e hc hd (by simpa using ra)⟩
  | .dict _, v, u, h, r => h.elim
theorem Reps.reads (I : Inv X pins σ H s) : ∀ (ds : List PyData) (xs : List V) (us : List Value), Reps X.K H ds xs → Vals xs us → ∃ as, ReadsAll s.heap us ds as
  | [], xs, us, h, r => by
    have h' : xs = [] := h
    subst h'
    cases r
    exact ⟨_, .nil⟩
  | d :: ds, xs, us, h, r => by
    obtain ⟨y, ys, h1, h2, h3⟩ := h
    subst h1
    cases r with
    | cons r1 r2 =>
      obtain ⟨as, ra⟩ := Rep.reads I d y _ h2 r1
      obtain ⟨bs, rb⟩ := Reps.reads I ds ys _ h3 r2
      exact ⟨_, .cons ra rb⟩
end
def rEqD (K : PySem.W.Frag) (neg : Bool) : R2 := fun x y H Q => ∃ d e, Rep K H d x ∧ Rep K H e y ∧ SeqAt.shaped d = true ∧ SeqAt.shaped e = true ∧ Q (.bl (if neg = true then !PyData.eqv d e else PyData.eqv d e)) H
theorem op_eqD (hu : X.A.units + 64 < cLine) : OpR X (compareOp .Eq) (rEqD X.K false) := by
  intro pins s σ H x y v u Q I rx ry h
  obtain ⟨d, e, h1, h2, h3, h4, q⟩ := h
  obtain ⟨as, ra⟩ := Rep.reads I d x v h1 rx
  obtain ⟨bs, rb⟩ := Rep.reads I e y u h2 ry
  exact eq_dataH ra rb h3 h4 hu ⟨.bl _, H, I, rfl, q⟩
theorem op_neD (hu : X.A.units + 64 < cLine) : OpR X (compareOp .NotEq) (rEqD X.K true) := by
  intro pins s σ H x y v u Q I rx ry h
  obtain ⟨d, e, h1, h2, h3, h4, q⟩ := h
  obtain ⟨as, ra⟩ := Rep.reads I d x v h1 rx
  obtain ⟨bs, rb⟩ := Rep.reads I e y u h2 ry
  exact ne_dataH ra rb h3 h4 hu ⟨.bl _, H, I, rfl, q⟩
end
mutual
theorem eqv_refl : ∀ d : PyData, d.canLay0 = true → PyData.eqv d d = true
  | .none, _ => rfl
  | .bool b, _ => by simp [PyData.eqv]
  | .int i, _ => by simp [PyData.eqv]
  | .str x, _ => by simp [PyData.eqv]
  | .list ds, h => by
    have h' : PyData.canLayAll0 ds = true := by simpa [PyData.canLay0] using h
    simp only [PyData.eqv]; exact eqvAll_refl ds h'
  | .tuple ds, h => by
    have h' : PyData.canLayAll0 ds = true := by simpa [PyData.canLay0] using h
    simp only [PyData.eqv]; exact eqvAll_refl ds h'
  | .dict _, h => by simp [PyData.canLay0] at h
theorem eqvAll_refl : ∀ ds : List PyData, PyData.canLayAll0 ds = true → PyData.eqvAll ds ds = true
  | [], _ => rfl
  | d :: ds, h => by
    have h' : d.canLay0 = true ∧ PyData.canLayAll0 ds = true := by simpa [PyData.canLayAll0] using h
    simp only [PyData.eqvAll, eqv_refl d h'.1, eqvAll_refl ds h'.2, Bool.and_self]
end
end L2
end
section
set_option Elab.async false
set_option linter.all false
set_option maxRecDepth 100000
set_option maxHeartbeats 1000000
namespace L2
open PySem PySem.Spec PyProof.Rows
def updL (H : Hp) (news : List (Addr × HO)) : Hp := fun b => match news.lookup b with
  | some o => some o
  | none => H b
theorem updL_old {H : Hp} {news : List (Addr × HO)} {b : Addr} (h : b ∉ news.map (·.1)) : updL H news b = H b := by
  unfold updL
  have : news.lookup b = none := by
    induction news with
    | nil => rfl
    | cons p r ih =>
      rw [List.map_cons, List.mem_cons, not_or] at h
      have hb : (b == p.1) = false := by simpa using h.1
      obtain ⟨x, y⟩ := p
      rw [List.lookup_cons, hb]
      exact ih h.2
  rw [this]
theorem updL_inv {H : Hp} {news : List (Addr × HO)} {b : Addr} {o : HO} (h : updL H news b = some o) : (b, o) ∈ news ∨ (b ∉ news.map (·.1) ∧ H b = some o) := by
  by_cases hb : b ∈ news.map (·.1)
  · left
    unfold updL at h
    cases e : news.lookup b with
    | some u =>
      rw [e] at h
      have : u = o := Option.some.inj h
      subst this
      clear h hb
      induction news with
      | nil => cases e
      | cons p r ih =>
        obtain ⟨x, y⟩ := p
        rw [List.lookup_cons] at e
        cases hx : b == x with
        | true =>
          rw [hx] at e
          have e1 : b = x := by simpa using hx
          have e2 : y = u := Option.some.inj e
          subst e1; subst e2
          exact List.mem_cons_self ..
        | false =>
          rw [hx] at e
          exact List.mem_cons_of_mem _ (ih e)
    | none =>
      exfalso
      clear h
      induction news with
      | nil => cases hb
      | cons p r ih =>
        obtain ⟨x, y⟩ := p
        rw [List.lookup_cons] at e
        cases hx : b == x with
        | true => rw [hx] at e; cases e
        | false =>
          rw [hx] at e
          rw [List.map_cons, List.mem_cons] at hb
          rcases hb with z | z
          · have : (b == x) = true := by simpa using z
            rw [this] at hx; cases hx
          · exact ih z e
  · rw [updL_old hb] at h
    exact .inr ⟨hb, h⟩
theorem updL_same {H : Hp} {news : List (Addr × HO)} (hn : ∀ p ∈ news, H p.1 = none) : Same H (updL H news) := fun b o e => by
  rw [updL_old fun z => ?_]
  · exact e
  · obtain ⟨p, hp, rfl⟩ := List.mem_map.mp z
    rw [hn p hp] at e; cases e
theorem ObjOk.obj {P : Program} {w : World} {H : Hp} {h : Heap} {a : Addr} {o : HO} (x : ObjOk P w H h a o) : ∃ u, h.get? a = some u := by
  cases o with
  | lst xs => obtain ⟨_, _, _, _, e⟩ := x; exact ⟨_, e⟩
  | tup xs => obtain ⟨_, _, _, _, e, _⟩ := x; exact ⟨_, e⟩
  | dK kvs => obtain ⟨_, _, _, _, o, _, _, e, _⟩ := x; exact ⟨_, e⟩
  | dT kvs => obtain ⟨_, _, _, _, o, _, _, e, _⟩ := x; exact ⟨_, e⟩
  | set S n => obtain ⟨o, _, _, _, e, _⟩ := x; exact ⟨_, e⟩
  | ins C dx fs => obtain ⟨_, _, _, e, _⟩ := x; exact ⟨_, e⟩
  | own y => exact x
  | xd fs => obtain ⟨_, ⟨_, _, _, e, _⟩, _⟩ := x; exact ⟨_, e⟩
  | rng lo hi => obtain ⟨_, _, _, e⟩ := x; exact ⟨_, e⟩
  | frz ob u => obtain ⟨e, _⟩ := x; exact ⟨_, e⟩
  | tbl ps => exact ⟨_, (show h.get? a = some _ from x)⟩
  | met f y => exact ⟨_, (show h.get? a = some _ from x)⟩
  | ext φ => obtain ⟨_, e, _⟩ := x; exact e
theorem HOk.free {P : Program} {w : World} {H : Hp} {h : Heap} {a : Addr} (x : HOk P w H h) (e : h.get? a = none) : H a = none := by
  cases q : H a with
  | none => rfl
  | some u =>
    obtain ⟨v, hv⟩ := (x a u q).obj
    rw [hv] at e; cases e
section
variable {X : Cx} {pins : List (Addr × Obj)} {σ : St} {H : Hp} {s : Shared}
theorem Inv.many {h' : Heap} {t' : Nat} {news : List (Addr × HO)} (I : Inv X pins σ H s) (k : ∀ b u, s.heap.get? b = some u → h'.get? b = some u) (hge : ∀ p ∈ news, s.heap.get? p.1 = none)
    (new : ∀ p ∈ news, ObjOk X.prog X.w (updL H news) h' p.1 p.2) : Inv X pins σ (updL H news) { s with heap := h', toks := t' } := by
  have hn : ∀ p ∈ news, H p.1 = none := fun p hp => I.hok.free (hge p hp)
  have sm := updL_same hn
  have hold : ∀ b (o : Obj), s.heap.get? b = some o → updL H news b = H b := fun b o e => updL_old fun z => by
    obtain ⟨p, hp, rfl⟩ := List.mem_map.mp z
    rw [hge p hp] at e; cases e
  refine I.un (H' := updL H news) ⟨fun b o e _ _ _ => k b o e, fun b o e _ _ _ => ⟨o.slots, k b o e⟩, fun b o e n _ => by rw [hold b o e]; exact n, fun b o e _ => ⟨o, k b o e⟩, fun b xs e => sm b _ e, fun b o u e => sm b _ e, fun b ps e => ⟨#[], by rw [sm b _ e]; simp⟩⟩ fun b u e => ?_
  rcases updL_inv e with z | ⟨_, z⟩
  · exact new (b, u) z
  · exact (I.hok b u z).stay (fun c v _ q => k c v q) (fun c q => sm c _ q) fun c xs q => sm c _ q
end
def vwObj (d : Addr) : Obj := { cls := .type "dict_items", data := .fields #[.ref d] }
def VW (p d : Addr) : HO := .ext fun h => h.get? p = some (vwObj d)
section
variable {X : Cx}
def rItems : V → List V → Hp → VK → Prop := fun x vs H Q => ∃ d kvs, x = .ref d ∧ vs = [] ∧ H d = some (.dK kvs) ∧ ∀ p, H p = none → Q (.ref p) (upd H p (VW p d))
abbrev encK (kvs : List (Str × V)) : List (Key × V) := kvs.map fun q => (Sum.inr q.1, q.2)
theorem KV.get {kvs : List (Key × V)} {vs : List (Key × Value)} : ∀ {i : Nat} {k : Key} {x : Value}, KV kvs vs → vs[i]? = some (k, x) → ∃ v, kvs[i]? = some (k, v) ∧ RelV v x := by
  intro i k x r
  induction r generalizing i with
  | nil => intro e; simp at e
  | cons h t ih =>
    intro e
    cases i with
    | zero =>
      have e' := Option.some.inj (by simpa using e)
      rename_i p q _ _
      obtain ⟨p1, p2⟩ := p
      subst e'
      have h1 : p1 = k := h.1
      subst h1
      exact ⟨p2, rfl, h.2⟩
    | succ i =>
      obtain ⟨v, e1, e2⟩ := ih (by simpa using e)
      exact ⟨v, by simpa using e1, e2⟩
def rSortedItems : List V → Hp → VK → Prop := fun xs H Q => ∃ p d kvs, xs = [.ref p] ∧ H p = some (VW p d) ∧ H d = some (.dK (encK kvs)) ∧ (kvs.map (·.1)).Nodup ∧ kvs.length < 64 ∧
  ∀ (out : List (Str × V)) (l : Addr) (ts : List V) (H' : Hp), out.Perm kvs → out.Pairwise (fun a b => a.1.cps.toList < b.1.cps.toList) → Same H H' → H' l = some (.lst ts) → H l = none → ts.length = out.length →
    (∀ (i : Nat) (q : Str × V), out[i]? = some q → ∃ a, ts[i]? = some (.ref a) ∧ H a = none ∧ H' a = some (.tup [.str q.1, q.2])) → Q (.ref l) H'
end
end L2
end
section
set_option Elab.async false
set_option linter.all false
set_option maxRecDepth 100000
set_option maxHeartbeats 1000000
namespace L2
open PySem PySem.Spec PyProof.Rows
def Its (z : Str) : It := ⟨fun i _ => i < z.cps.size, fun i H x H' => H' = H ∧ ∃ c, z.cps[i]? = some c ∧ x = .str ⟨#[c]⟩, fun i _ => i = z.cps.size⟩
theorem turn_str {P : Program} {w : World} {K : PySem.W.Frag} {tg : Expr} (it : Addr) (z : Str) (t : Tok) (ty : String) (hno : ["enumerate", "zip", "dict_itemiterator", "dict_reverseitemiterator", "odict_iterator", "itertools.zip_longest", "itertools.pairwise"].contains ty = false)
    (hW : ∀ A : Around, A.handled = none → Walks P w A it [it] [it] z.cps.size (SignAt z) (fun i h => h.IsStrIter it ty z t i))
    (hS : ∀ (A : Around) (i : Nat) (s : Shared) (Q : Value → Shared → Prop) (E : Value → Shared → Prop), s.heap.IsStrIter it ty z t i → Q (.ref it) s → wpAny (model P w) A (pyIter (.ref it)) Q E s) : Turn P w K tg (Its z) [it] it (fun i h => h.IsStrIter it ty z t i) where
  mem := by simp
  obj := fun i h st b hb => by
    have e : b = it := by simpa using hb
    subst e
    obtain ⟨o, e, c, d⟩ := st
    exact ⟨o, e, fun v z => by rw [d] at z; cases z⟩
  keep := fun i h h' st k => let ⟨o, e, r⟩ := st; ⟨o, k it (by simp) o e, r⟩
  item := by
    intro X hP hw hK hc i pins s σ H E I hf st hg
    subst hP hw hK
    obtain ⟨f0, f1, f2, f3, f4, f5⟩ := hf it (by simp)
    refine (hW X.A (I.ok.hd hc)).item i s _ _ hg st fun v h' tk hv st' kk => ?_
    obtain ⟨c, u, hcu, rfl⟩ := hv
    have I1 : Inv X pins σ H { s with heap := h', toks := tk } := I.turned (fun b o hb e => kk b o (by simpa using hb) e) f0 f1 f3 f4 f5
    obtain ⟨o, e, oc, od⟩ := id st'
    exact ⟨_, rfl, go_of (s := { s with heap := h', toks := tk }) e oc od hno ⟨.str ⟨#[c]⟩, H, I1, ⟨u, rfl⟩, ⟨rfl, c, hcu, rfl⟩, st', fun b hb => (hf b hb).1⟩⟩
  done := by
    intro X hP hw hK hc i pins s σ H E I hf st hg
    subst hP hw hK
    obtain ⟨f0, f1, f2, f3, f4, f5⟩ := hf it (by simp)
    have hi : i = z.cps.size := hg
    subst hi
    exact (hW X.A (I.ok.hd hc)).done s _ _ st fun h' tk kk => ⟨rfl, I.turned (fun b o hb e => kk b o (by simpa using hb) e) f0 f1 f3 f4 f5⟩
  self := hS
section
variable {X : Cx} {tg : Expr}
def iStr (tl : TE) : TI := fun σ H R => tl σ H fun x H1 => ∃ z, x = .str z ∧ R (Its z) H1
theorem pi_str {l : Expr} {tl : TE} (hl : PE X l tl) : PI X tg l (iStr tl) := by
  intro pins s σ H R I h
  refine thn (hl pins s σ H _ I h) fun v s1 ⟨x, H1, I1, r1, z, ez, q⟩ => ?_
  subst ez
  obtain ⟨t, rfl⟩ := r1
  have hn : ∀ b ∈ [s1.heap.objs.size], FpOk X pins H1 b := fun b hb => by
    have e : b = s1.heap.objs.size := by simpa using hb
    subst e
    exact I1.fpOk (Nat.le_refl _) (I1.hok.fresh (Nat.le_refl _))
  cases ha : z.cps.all (· < 128) with
  | false =>
    refine wpAny_pyIter_wide ha ⟨s1.heap.objs.size, [s1.heap.objs.size], _, _, H1, rfl, I1.kept (t' := s1.toks) fun b o e => Heap.get?_push_of_some _ e, turn_str _ z t "str_iterator" (by decide) (fun A hA => Walks.strWide hA _ z t) (fun A i s Q E st h => wpAny_pyIter_striter_wide st h), ⟨_, Heap.get?_push_size _ rfl, rfl, rfl⟩, hn, q⟩
  | true =>
    refine wpAny_pyIter_ascii ha ⟨s1.heap.objs.size, [s1.heap.objs.size], _, _, H1, rfl, I1.kept (t' := s1.toks) fun b o e => Heap.get?_push_of_some _ e, turn_str _ z t "str_ascii_iterator" (by decide) (fun A hA => Walks.strAscii hA _ z t) (fun A i s Q E st h => wpAny_pyIter_striter_ascii st h), ⟨_, Heap.get?_push_size _ rfl, rfl, rfl⟩, hn, q⟩
end
theorem idx_norm (lo hi : Option Int) (n : Nat) : Builtin.Str.strSliceIndices lo hi 1 n = Builtin.Str.strSliceIndices (some ((HT.sIx n 0 lo : Nat) : Int)) (some ((HT.sIx n n hi : Nat) : Int)) 1 n := by
  have hl := HT.sIx_le n 0 (Nat.zero_le _) lo
  have hh := HT.sIx_le n n (Nat.le_refl _) hi
  have key : ∀ (o : Option Int) (d : Nat), d ≤ n → (match o with | none => (d : Int) | some i => (let i := if i < 0 then i + (n : Int) else i; max 0 (min i (n : Int)))) = ((HT.sIx n d o : Nat) : Int) := by
    intro o d hd
    cases o with
    | none => rfl
    | some i =>
      show max 0 (min (if i < 0 then i + (n : Int) else i) (n : Int)) = (((if i < 0 then (i + (n : Int)).toNat else min i.toNat n) : Nat) : Int)
      by_cases h : i < 0
      · rw [if_pos h, if_pos h]; omega
      · rw [if_neg h, if_neg h]; omega
  have e1 := key lo 0 (Nat.zero_le _)
  have e2 := key hi n (Nat.le_refl _)
  have k1 : max (0 : Int) (min ((HT.sIx n 0 lo : Nat) : Int) (n : Int)) = ((HT.sIx n 0 lo : Nat) : Int) := by omega
  have k2 : max (0 : Int) (min ((HT.sIx n n hi : Nat) : Int) (n : Int)) = ((HT.sIx n n hi : Nat) : Int) := by omega
  have n1 : ¬ (((HT.sIx n 0 lo : Nat) : Int) < 0) := by omega
  have n2 : ¬ (((HT.sIx n n hi : Nat) : Int) < 0) := by omega
  unfold Builtin.Str.strSliceIndices
  simp only [show ((1 : Int) > 0) = True from by simp, if_true, n1, n2, if_false, k1, k2]
  have z1 : ∀ i : Int, (max 0 (min (if i < 0 then i + (n : Int) else i) (n : Int))) = ((HT.sIx n 0 (some i) : Nat) : Int) := fun i => key (some i) 0 (Nat.zero_le _)
  have z2 : ∀ i : Int, (max 0 (min (if i < 0 then i + (n : Int) else i) (n : Int))) = ((HT.sIx n n (some i) : Nat) : Int) := fun i => key (some i) n (Nat.le_refl _)
  have w1 : ((HT.sIx n 0 none : Nat) : Int) = 0 := rfl
  have w2 : ((HT.sIx n n none : Nat) : Int) = n := rfl
  cases lo with
  | none =>
    cases hi with
    | none => rfl
    | some j => dsimp only; rw [z2, w1]
  | some i =>
    cases hi with
    | none => dsimp only; rw [z1, w2]
    | some j =>
      dsimp only
      have zz := z1 i
      rw [zz]
      rw [z2]
theorem txt_slice (x : Str) (lo hi : Option Int) : Txt.slice x lo hi = ⟨((x.cps.toList.drop (HT.sIx x.length 0 lo)).take (HT.sIx x.length x.length hi - HT.sIx x.length 0 lo)).toArray⟩ := by
  have hl := HT.sIx_le x.length 0 (Nat.zero_le _) lo
  have hh := HT.sIx_le x.length x.length (Nat.le_refl _) hi
  unfold Txt.slice
  rw [idx_norm lo hi]
  generalize HT.sIx x.length 0 lo = a at *
  generalize HT.sIx x.length x.length hi = b at *
  have hlen : x.cps.toList.length = x.length := by simp [Str.length]
  by_cases hab : a ≤ b
  · have sp := StrLaws.sliced_plain x hab hh
    split
    · rename_i h
      rw [StrLaws.strSliceIndices_plain hab hh] at h
      have h' : b - a = x.length := by simpa using h
      have ha : a = 0 := by omega
      have hb : b = x.cps.toList.length := by omega
      subst ha
      apply MyS.Str_ext
      show x.cps.toList = ((x.cps.toList.drop 0).take (b - 0)).toArray.toList
      rw [List.drop_zero, Nat.sub_zero, hb, List.take_length]
    · rw [sp]
  · have hb : b - a = 0 := by omega
    have e : Builtin.Str.strSliceIndices (some (a : Int)) (some (b : Int)) 1 x.length = [] := by
      have h1 : ¬ ((a : Int) < 0) := by omega
      have h2 : ¬ ((b : Int) < 0) := by omega
      have e1 : max (0 : Int) (min (a : Int) (x.length : Int)) = a := by omega
      have e2 : max (0 : Int) (min (b : Int) (x.length : Int)) = b := by omega
      simp only [Builtin.Str.strSliceIndices, sliceRange, h1, h2, if_false, e1, e2, show ((1 : Int) > 0) = True from by simp, if_true]
      rw [if_neg (by omega)]
      rfl
    rw [e, hb]
    split
    · rename_i h
      have h' : 0 = x.length := by simpa using h
      omega
    · simp
section
variable {X : Cx} {e : Expr} {te : TE} {lo hi : Option Expr} {tl th : TO} {pos p2 : Pos}
def cutS (z : Str) (lo hi : Option Int) : Str := ⟨((z.cps.toList.drop (HT.sIx z.length 0 lo)).take (HT.sIx z.length z.length hi - HT.sIx z.length 0 lo)).toArray⟩
def tSlS (te : TE) (tl th : TO) : TE := fun σ H Q => te σ H fun x H1 => tl σ H1 fun l H2 => th σ H2 fun u H3 => ∃ z, x = .str z ∧ z.length ≤ sizeLine ∧ Q (.str (cutS z l u)) H3
theorem pe_sliceS (he : PE X e te) (hl : PO X lo tl) (hu : PO X hi th) : PE X (.Subscript e (.Slice lo hi none p2) pos) (tSlS te tl th) := by
  intro pins s σ H Q I h
  refine Subscript_ (thn (he pins s σ H _ I h) fun v s1 ⟨x, H1, I1, r1, q1⟩ => ?_)
  refine wpAny_Slice (thn (hl pins s1 σ H1 _ I1 q1) fun vl s2 ⟨l, H2, I2, pl, q2⟩ => thn (hu pins s2 σ H2 _ I2 q2) fun vu s3 ⟨u, H3, I3, pu, q3⟩ => ?_)
  rw [evalPart_none]
  refine wpAny_pure ?_
  obtain ⟨z, rfl, hz, q⟩ := q3
  obtain ⟨t, rfl⟩ := r1
  have hk : KeptH (fun h => ∀ b o, s3.heap.get? b = some o → h.get? b = some o) := fun h ob hP b o q => Heap.get?_push_of_some _ (hP b o q)
  have fin : ∀ h' t' k, (∀ b o, s3.heap.get? b = some o → h'.get? b = some o) → EP X pins σ Q (.str (Txt.slice z l u) t') { s3 with heap := h', toks := k } := fun h' t' k hP => by
    refine ⟨.str (cutS z l u), H3, I3.kept hP, ⟨t', ?_⟩, q⟩
    rw [txt_slice]; rfl
  have go : ItemOn (model X.prog X.w) X.A X.xe (.str z t) (.ref s3.heap.objs.size) (EP X pins σ Q) { s3 with heap := s3.heap.push { cls := .type "slice", data := .fields #[vl, vu, .none] } } := by
    cases pl with
    | none =>
      cases pu with
      | none => exact SBH.sliceItem_nn hk (fun _ _ q => q) fin hz
      | int j uj => exact SBH.sliceItem_ns hk (fun _ _ q => q) fin hz
    | int i ui =>
      cases pu with
      | none => exact SBH.sliceItem_sn hk (fun _ _ q => q) fin hz
      | int j uj => exact SBH.sliceItem_ss hk (fun _ _ q => q) fin hz
  obtain ⟨T, id, hT, ht, hg⟩ := go
  exact tail_any (ops := [.ref s3.heap.objs.size, .str z t]) ht hT hg (by with_unfolding_all rfl)
end
section
variable {X : Cx}
theorem call_all (hc : X.calm = true) : CallR X (.builtin "all") (fun xs H Q => ∃ (p : Addr) (bs : List Bool), xs = [.ref p] ∧ SqL X.K H p (bs.map V.bl) ∧ Q (.bl (bs.all id)) H) := by
  intro pins s σ H xs us Q I r h
  obtain ⟨p, bs, rfl, hq, q⟩ := h
  obtain ⟨u, rfl, ru⟩ := vals1 r
  cases ru
  obtain ⟨its, rv, pl, hz⟩ := I.list hq
  have hp : p ≠ s.heap.objs.size := by
    obtain ⟨o, n, e, _⟩ := pl
    exact Nat.ne_of_lt (Heap.lt_size e)
  have vget : ∀ (i : Nat) (v : Value), its.toArray[i]? = some v → v = .bool (bs.getD i false) := fun i v e => by
    have e' : its[i]? = some v := by simpa using e
    have hl := rv.length
    have hi : i < bs.length := by
      have := (List.getElem?_eq_some_iff.mp e').1
      simp at hl; omega
    obtain ⟨u, e1, e2⟩ := rv.get (i := i) (x := .bl (bs.getD i false)) (by rw [List.getElem?_map]; simp [hi])
    rw [e'] at e1
    cases e1
    exact e2
  refine call_all_walk (wpAny_pyIter_list pl.isList ?_)
  refine ⟨s.heap.objs.size, _, _, its.toArray.size, _, _, fun i => bs.getD i false, rfl, Walks.list (A := X.A.in1) (I.ok.hd hc) _ p hp its.toArray, ⟨⟨_, Heap.get?_push_size _ rfl, rfl, rfl⟩, ?_⟩, fun i v s' Q' E' hv hQ => ?_, fun h' tk hk => ?_⟩
  · exact pl.isList.at fun o e => Heap.get?_push_of_some _ e
  · rw [vget i v hv]; exact wpAny_truthy_bool hQ
  · refine ⟨.bl (bs.all id), H, I.kept (t' := tk) (h' := h') fun b o e => hk b o (fun z => ?_) (Heap.get?_push_of_some _ e), ?_, q⟩
    · have : b = s.heap.objs.size := by simpa using z
      exact absurd (Heap.lt_size e) (by rw [this]; exact Nat.lt_irrefl _)
    · have hl := rv.length
      have hsz : its.toArray.size = bs.length := by simp at hl; simp [hl]
      have : (List.range its.toArray.size).all (fun i => bs.getD i false) = bs.all id := by
        rw [hsz]
        rw [Bool.eq_iff_iff]
        simp only [List.all_eq_true, List.mem_range, id]
        constructor
        · intro h b hb
          obtain ⟨i, hi, e⟩ := List.getElem_of_mem hb
          have := h i hi
          simpa [hi, e] using this
        · intro h i hi
          have := h bs[i] (List.getElem_mem hi)
          simpa [hi] using this
      rw [this]; rfl
def vvObj (d : Addr) : Obj := { cls := .type "dict_values", data := .fields #[.ref d] }
def VLS (p d : Addr) : HO := .ext fun h => h.get? p = some (vvObj d)
def rValues : V → List V → Hp → VK → Prop := fun x vs H Q => ∃ d kvs, x = .ref d ∧ vs = [] ∧ H d = some (.dK kvs) ∧ ∀ p, H p = none → Q (.ref p) (upd H p (VLS p d))
end
end L2
end
section
set_option Elab.async false
set_option linter.all false
set_option maxRecDepth 100000
set_option maxHeartbeats 1000000
namespace L2
open PySem PySem.Spec PyProof.Rows
section
variable {X : Cx}
theorem call_isinst : CallR X (.builtin "isinstance") (fun xs H Q => ∃ x c t b, xs = [x, .ty c] ∧ TyOf X.K H x t ∧ PySem.W.kitOne X.K t (.type c) = some b ∧ Q (.bl b) H) := by
  intro pins s σ H xs us Q I r h
  obtain ⟨x, c, t, b, rfl, ty, e, q⟩ := h
  obtain ⟨u, w', rfl, rx, rc⟩ := vals2 r
  cases rc
  exact isinst_ok I rx ty e fun tk => ⟨.bl b, H, I.tok tk, rfl, q⟩
theorem strs_of {ss : List Str} : ∀ {us : List Value}, Vals (ss.map V.str) us → StrsAre us ss := by
  induction ss with
  | nil => intro us r; rw [List.map_nil] at r; cases r; exact .nil
  | cons x ss ih =>
    intro us r
    rw [List.map_cons] at r
    cases r with
    | cons r1 r2 =>
      obtain ⟨t, e⟩ := r1
      subst e
      exact .cons x t (ih r2)
def rJoin (K : PySem.W.Frag) : V → List V → Hp → VK → Prop := fun x vs H Q => ∃ (sep : Str) (l : Addr) (ss : List Str), x = .str sep ∧ vs = [.ref l] ∧ SqL K H l (ss.map V.str) ∧ (ss.map (·.length)).sum + ss.length * sep.length ≤ 16777216 ∧ Q (.str (Txt.join sep ss)) H
theorem mt_join : MtR X "str.join" (rJoin X.K) := by
  intro pins s σ H x vs v us Q I rx rv h
  obtain ⟨sep, l, ss, rfl, rfl, hq, hz, q⟩ := h
  obtain ⟨t, rfl⟩ := rx
  obtain ⟨u, rfl, ru⟩ := vals1 rv
  cases ru
  obtain ⟨its, r', pl, _⟩ := I.list hq
  exact join_list pl.isList (by simpa using strs_of r') hz fun t' k => ⟨.str (Txt.join sep ss), H, I.tok k, ⟨t', rfl⟩, q⟩
theorem foldl_app (l : List Str) : ∀ a : Array Nat, (l.foldl (fun acc p => acc ++ (⟨#[]⟩ : Str).cps ++ p.cps) a).toList = a.toList ++ (l.map (·.cps.toList)).flatten := by
  induction l with
  | nil => intro a; simp
  | cons x r ih => intro a; rw [List.foldl_cons, ih]; simp
theorem join_flat (ss : List Str) : Txt.join ⟨#[]⟩ ss = ⟨(ss.map (·.cps.toList)).flatten.toArray⟩ := by
  apply MyS.Str_ext
  show ((ss.drop 1).foldl (fun acc p => acc ++ (⟨#[]⟩ : Str).cps ++ p.cps) (ss.headD Str.empty).cps).toList = (ss.map (·.cps.toList)).flatten.toArray.toList
  rw [foldl_app]
  cases ss with
  | nil => rfl
  | cons x r => simp
def rSetD : V → List V → Hp → VK → Prop := fun x vs H Q => ∃ d kvs k v, x = .ref d ∧ vs = [kV k, v] ∧ H d = some (.dK kvs) ∧ kvs.length < sizeLine ∧ (∀ y, valV kvs k = some y → Q y H) ∧ (valV kvs k = none → Q v (upd H d (.dK (putK kvs k v))))
def rSortedD : List V → Hp → VK → Prop := fun xs H Q => ∃ d kvs, xs = [.ref d] ∧ H d = some (.dK (encK kvs)) ∧ (kvs.map (·.1)).Nodup ∧ kvs.length < 64 ∧
  ∀ (out : List Str) (l : Addr), out.Perm (kvs.map (·.1)) → out.Pairwise (fun a b => a.cps.toList < b.cps.toList) → H l = none → Q (.ref l) (upd H l (.lst (out.map V.str)))
theorem op_catT0 : OpR X (binaryOp .Add) (fun x y H Q => ∃ a b ys, x = .ref a ∧ y = .ref b ∧ SqT X.K H a [] ∧ SqT X.K H b ys ∧ Q (.ref b) H) := by
  intro pins s σ H x y v u Q I rx ry h
  obtain ⟨a, b, ys, rfl, rfl, ha, hb, q⟩ := h
  cases rx
  cases ry
  obtain ⟨its, r1, p1, _⟩ := I.tuple ha
  obtain ⟨its2, r2, p2, _⟩ := I.tuple hb
  have e0 : its = [] := by cases r1; rfl
  subst e0
  obtain ⟨⟨cls, dd, data, sl⟩, ho, hc, n, hd⟩ := id p1
  obtain ⟨⟨cls2, dd2, data2, sl2⟩, ho2, hc2, n2, hd2⟩ := id p2
  simp only at hc hd hc2 hd2
  subst hc hd hc2 hd2
  exact concat_meets ⟨_, ho, rfl⟩ ⟨_, ho2, rfl⟩ noFill_tuple_add seq_tuple_add PySem.F.slot_tuple_add PySem.F.entry_tuple_add (PySem.F.args_tuple_add_2 _ _)
    (tuple_addW0 a b _ its2.toArray n n2 dd dd2 sl sl2 (by simp)) ⟨ho, ho2, ⟨.ref b, H, I, rfl, q⟩⟩
end
section
variable {prog : Program} {w : World} {A : Around} {E : Value → Shared → Prop} {s : Shared}
end
section
variable {X : Cx} {e st : Expr} {te ts : TE} {pos p2 : Pos}
def tRevT (K : PySem.W.Frag) (te ts : TE) : TE := fun σ H Q => te σ H fun x H1 => ts σ H1 fun y H2 => ∃ a xs, x = .ref a ∧ y = .int (-1) ∧ SqT K H2 a xs ∧ ∀ p, H2 p = none → Q (.ref p) (upd H2 p (.tup xs.reverse))
end
end L2
end
section
set_option Elab.async false
set_option linter.all false
set_option maxRecDepth 100000
set_option maxHeartbeats 1000000
namespace L2
open PySem PySem.Spec PyProof.Rows
structure Known (J : It) (items : List V) (Hk : Hp → Prop) : Prop where
  go : ∀ i H, Hk H → i < items.length → J.go i H
  yld : ∀ i H x H', Hk H → J.yld i H x H' → H' = H ∧ (i < items.length → items[i]? = some x)
  stop : ∀ H, Hk H → J.stop items.length H
theorem known_range (lo : Int) (n : Nat) : Known (Itr lo n) ((List.range n).map fun (i : Nat) => V.int (lo + (i : Int))) (fun _ => True) :=
  ⟨fun i H _ h => by show i < n; simpa using h, fun i H x H' _ h => ⟨h.1, fun hi => by
    have hi' : i < n := by simpa using hi
    rw [List.getElem?_map, List.getElem?_range hi', h.2]; rfl⟩, fun H _ => by show n ≤ _; simp⟩
theorem known_list (K : PySem.W.Frag) (a : Addr) (xs : List V) : Known (Itl K a) xs (fun H => SqL K H a xs) :=
  ⟨fun i H h hi => ⟨xs, xs[i], h, List.getElem?_eq_getElem hi⟩, fun i H x H' h y => ⟨y.1, fun _ => y.2 xs h⟩, fun H h => ⟨xs, h, Nat.le_refl _⟩⟩
theorem known_tup (K : PySem.W.Frag) (a : Addr) (xs : List V) : Known (Itt K a) xs (fun H => SqT K H a xs) :=
  ⟨fun i H h hi => ⟨xs, xs[i], h, List.getElem?_eq_getElem hi⟩, fun i H x H' h y => ⟨y.1, fun _ => y.2 xs h⟩, fun H h => ⟨xs, h, Nat.le_refl _⟩⟩
theorem known_str (z : Str) : Known (Its z) (z.cps.toList.map fun c => V.str ⟨#[c]⟩) (fun _ => True) :=
  ⟨fun i H _ h => by show i < z.cps.size; simpa using h, fun i H x H' _ h => ⟨h.1, fun _ => by
    obtain ⟨c, e1, e2⟩ := h.2
    rw [List.getElem?_map, Array.getElem?_toList, e1, e2]; rfl⟩, fun H _ => by show _ = z.cps.size; simp⟩
theorem comp_known {J : It} {items : List V} {Hk : Hp → Prop} (kn : Known J items Hk) {caps : List Nat} {n : Nat} {σ : St} {g : TG} {tc : TT} {te : TE} {F : List V → Hp → Prop} {H1 : Hp} (cv : St) (k : Nat) (hn : items.length < 1000)
    (Pv : Nat → List V → Hp → Prop) (h0 : Pv 0 [] H1) (hk : ∀ i acc H, i ≤ items.length → Pv i acc H → Hk H ∧ acc.length ≤ i)
    (turn : ∀ (i : Nat) (x : V) (acc : List V) (H : Hp) (ys : St) (Nx : List V → St → Hp → Prop), (∀ acc' H' zs, zs.length = k → Pv (i + 1) acc' H' → Nx acc' (cv ++ zs) H') → items[i]? = some x → ys.length = k → Pv i acc H →
      g x (cv ++ ys) H fun σ2 H3 => tc σ2 H3 fun b H4 => if b = true then te σ2 H4 fun y H5 => Nx (acc ++ [y]) σ2 H5 else Nx acc σ2 H4)
    (fin : ∀ acc H, Pv items.length acc H → F acc H) (hcv : capStart caps n σ = cv ++ List.replicate k none := by rfl) :
    ∃ W : Nat → Nat → List V → St → Hp → Prop, (∃ m, W 0 m [] (capStart caps n σ) H1) ∧ ∀ i m acc σ' H', W i m acc σ' H' →
      (J.stop i H' ∧ F acc H') ∨
      (J.go i H' ∧ acc.length < sizeLine ∧ ∀ x H2, J.yld i H' x H2 → g x σ' H2 fun σ2 H3 => tc σ2 H3 fun b H4 => if b = true then te σ2 H4 fun y H5 => ∃ m', m' < m ∧ W (i + 1) m' (acc ++ [y]) σ2 H5 else ∃ m', m' < m ∧ W (i + 1) m' acc σ2 H4) := by
  refine ⟨fun i m acc σ' H' => i ≤ items.length ∧ m = items.length - i ∧ (∃ ys, ys.length = k ∧ σ' = cv ++ ys) ∧ Pv i acc H', ⟨items.length, Nat.zero_le _, rfl, ⟨_, by simp, hcv⟩, h0⟩, ?_⟩
  rintro i m acc σ' H' ⟨hi, rfl, ⟨ys, hy, rfl⟩, pv⟩
  obtain ⟨hH, ha⟩ := hk i acc H' hi pv
  by_cases e : i = items.length
  · subst e
    exact .inl ⟨kn.stop H' hH, fin acc H' pv⟩
  · have hi' : i < items.length := by omega
    refine .inr ⟨kn.go i H' hH hi', by rw [sizeLine_eq]; omega, fun x H2 hy2 => ?_⟩
    obtain ⟨e2, e3⟩ := kn.yld i H' x H2 hH hy2
    subst e2
    exact turn i x acc H2 ys (fun acc' σ2 H5 => ∃ m', m' < items.length - i ∧ (i + 1 ≤ items.length ∧ m' = items.length - (i + 1) ∧ (∃ ys, ys.length = k ∧ σ2 = cv ++ ys) ∧ Pv (i + 1) acc' H5)) (fun acc' H5 zs hz p => ⟨items.length - (i + 1), by omega, by omega, rfl, ⟨zs, hz, rfl⟩, p⟩) (e3 hi') hy pv
theorem comp_known0 {J : It} {items : List V} {Hk : Hp → Prop} (kn : Known J items Hk) {caps : List Nat} {n : Nat} {σ : St} {g : TG} {te : TE} {F : List V → Hp → Prop} {H1 : Hp} (cv : St) (k : Nat) (hn : items.length < 1000)
    (Pv : Nat → List V → Hp → Prop) (h0 : Pv 0 [] H1) (hk : ∀ i acc H, i ≤ items.length → Pv i acc H → Hk H ∧ acc.length ≤ i)
    (turn : ∀ (i : Nat) (x : V) (acc : List V) (H : Hp) (ys : St) (Nx : List V → St → Hp → Prop), (∀ acc' H' zs, zs.length = k → Pv (i + 1) acc' H' → Nx acc' (cv ++ zs) H') → items[i]? = some x → ys.length = k → Pv i acc H →
      g x (cv ++ ys) H fun σ2 H3 => te σ2 H3 fun y H5 => Nx (acc ++ [y]) σ2 H5)
    (fin : ∀ acc H, Pv items.length acc H → F acc H) (hcv : capStart caps n σ = cv ++ List.replicate k none := by rfl) :
    ∃ W : Nat → Nat → List V → St → Hp → Prop, (∃ m, W 0 m [] (capStart caps n σ) H1) ∧ ∀ i m acc σ' H', W i m acc σ' H' →
      (J.stop i H' ∧ F acc H') ∨
      (J.go i H' ∧ acc.length < sizeLine ∧ ∀ x H2, J.yld i H' x H2 → g x σ' H2 fun σ2 H3 => tYes σ2 H3 fun b H4 => if b = true then te σ2 H4 fun y H5 => ∃ m', m' < m ∧ W (i + 1) m' (acc ++ [y]) σ2 H5 else ∃ m', m' < m ∧ W (i + 1) m' acc σ2 H4) := by
  refine comp_known kn cv k hn Pv h0 hk (fun i x acc H ys Nx hN hx hy p => ?_) fin hcv
  have := turn i x acc H ys Nx hN hx hy p
  have e : (fun (σ2 : St) (H3 : Hp) => tYes σ2 H3 fun b H4 => if b = true then te σ2 H4 fun y H5 => Nx (acc ++ [y]) σ2 H5 else Nx acc σ2 H4) = fun σ2 H3 => te σ2 H3 fun y H5 => Nx (acc ++ [y]) σ2 H5 := by
    funext σ2 H3
    unfold tYes
    exact if_pos rfl
  rw [e]
  exact this
theorem for_known {J : It} {items : List V} {Hk : Hp → Prop} (kn : Known J items Hk) {g : TG} {tb : TS} {D : Ends} {σ : St} {H : Hp} (Pv : Nat → St → Hp → Prop) (h0 : Pv 0 σ H) (hk : ∀ i σ H, i ≤ items.length → Pv i σ H → Hk H)
    (turn : ∀ (i : Nat) (x : V) (σ : St) (H : Hp) (Nx : St → Hp → Prop), (∀ σ' H', Pv (i + 1) σ' H' → Nx σ' H') → items[i]? = some x → Pv i σ H → g x σ H fun σ2 H2 => tb { D with nx := Nx, ct := Nx, bk := D.nx } σ2 H2)
    (fin : ∀ σ H, Pv items.length σ H → D.nx σ H) :
    ∃ W : Nat → Nat → St → Hp → Prop, (∃ m, W 0 m σ H) ∧ ∀ i m σ H, W i m σ H →
      (J.stop i H ∧ D.nx σ H) ∨ (J.go i H ∧ ∃ N : St → Hp → Prop, (∀ σ' H', N σ' H' → ∃ m', m' < m ∧ W (i + 1) m' σ' H') ∧ ∀ x H', J.yld i H x H' → g x σ H' fun σ2 H2 => tb { D with nx := N, ct := N, bk := D.nx } σ2 H2) := by
  refine ⟨fun i m σ H => i ≤ items.length ∧ m = items.length - i ∧ Pv i σ H, ⟨items.length, Nat.zero_le _, rfl, h0⟩, ?_⟩
  rintro i m σ H ⟨hi, rfl, pv⟩
  have hH := hk i σ H hi pv
  by_cases e : i = items.length
  · subst e
    exact .inl ⟨kn.stop H hH, fin σ H pv⟩
  · have hi' : i < items.length := by omega
    refine .inr ⟨kn.go i H hH hi', Pv (i + 1), fun σ' H' p => ⟨items.length - (i + 1), by omega, by omega, rfl, p⟩, fun x H2 hy2 => ?_⟩
    obtain ⟨e2, e3⟩ := kn.yld i H x H2 hH hy2
    subst e2
    exact turn i x σ H2 (Pv (i + 1)) (fun _ _ p => p) (e3 hi') pv
theorem iteD {c A B : Prop} [Decidable c] (hc : c) (h : A) : if decide c = true then A else B := by
  rw [if_pos (decide_eq_true hc)]; exact h
theorem iteDF {c A B : Prop} [Decidable c] (hc : ¬ c) (h : B) : if decide c = true then A else B := by
  rw [if_neg (fun z => hc (of_decide_eq_true z))]; exact h
theorem Same.upd_new {H H' : Hp} {a : Addr} {o : HO} (e : Same H H') (h : H a = none) : Same H (upd H' a o) := fun b u q => by
  rw [upd_ne (ne_of_none q h)]; exact e b u q
theorem Same.upd1 {H : Hp} {a : Addr} {o : HO} (h : H a = none) : Same H (upd H a o) := (Same.refl H).upd_new h
def capOk (sc : Scope) (XN N : List Str) (scope : Scope) : Nat → List Nat → Bool
  | _, [] => true
  | i, c :: cs => (match N[i]? with
    | some x => decide (XN[c]? = some x) && decide (scope.names.lookup x = some .free) && (decide (sc.names.lookup x = some .cell) || decide (sc.names.lookup x = some .free))
    | none => false) && capOk sc XN N scope (i + 1) cs
def compOk (sc : Scope) (XN N : List Str) (scope : Scope) (caps : List Nat) : Bool :=
  decide (scope.kind = .function) && decide N.Nodup && scope.names.all (fun y => decide (y.2 ≠ .cell)) && scope.names.all (fun y => decide (y.2 = .local → scope.names.lookup y.1 = some .local)) &&
  scope.names.all (fun y => decide (y.2 = .free → sc.names.lookup y.1 = some .cell ∨ sc.names.lookup y.1 = some .free)) && capOk sc XN N scope 0 caps && decide (caps.length ≤ N.length)
theorem capOk_get {sc : Scope} {XN N : List Str} {scope : Scope} : ∀ {caps : List Nat} {j : Nat}, capOk sc XN N scope j caps = true → ∀ i, i < caps.length →
    ∃ x, N[j + i]? = some x ∧ XN[caps.getD i 0]? = some x ∧ scope.names.lookup x = some .free ∧ (sc.names.lookup x = some .cell ∨ sc.names.lookup x = some .free)
  | [], _, _, i, hi => by simp at hi
  | c :: cs, j, h, i, hi => by
    unfold capOk at h
    rw [Bool.and_eq_true] at h
    obtain ⟨h1, h2⟩ := h
    cases i with
    | zero =>
      cases e : N[j]? with
      | none => rw [e] at h1; cases h1
      | some x =>
        rw [e] at h1
        simp only [Bool.and_eq_true, Bool.or_eq_true, decide_eq_true_eq] at h1
        exact ⟨x, by simpa using e, by simpa using h1.1.1, h1.1.2, h1.2⟩
    | succ i =>
      obtain ⟨x, a, b, c', d⟩ := capOk_get h2 i (by simpa using hi)
      exact ⟨x, by rw [← a]; congr 1; omega, by simpa using b, c', d⟩
theorem compScope_of {sc : Scope} {XN N : List Str} {scope : Scope} {caps : List Nat} (h : compOk sc XN N scope caps = true) : CompScope sc XN N scope caps := by
  unfold compOk at h
  simp only [Bool.and_eq_true, decide_eq_true_eq, List.all_eq_true] at h
  obtain ⟨⟨⟨⟨⟨⟨a, b⟩, c⟩, d⟩, e⟩, f⟩, g⟩ := h
  exact ⟨a, b, c, d, e, fun i hi => by simpa using capOk_get f i hi, g⟩
end L2
end
section
set_option Elab.async false
set_option linter.all false
set_option maxRecDepth 100000
set_option maxHeartbeats 1000000
namespace L2
open PySem PySem.Spec PyProof.Rows
section
variable {X : Cx} {pins : List (Addr × Obj)} {σ : St} {H : Hp} {s : Shared}
theorem Inv.turnedT {fp : List Addr} {h' : Heap} {t' : Nat} {T : Addr} {o : HO} (I : Inv X pins σ H s) (k : ∀ b u, b ∉ fp → s.heap.get? b = some u → h'.get? b = some u) (hf : ∀ b ∈ fp, FpOk X pins H b) (hT : s.heap.get? T = none)
    (new : ObjOk X.prog X.w (upd H T o) h' T o) : Inv X pins σ (upd H T o) { s with heap := h', toks := t' } := by
  have hn : H T = none := I.hok.free hT
  have nit : ∀ b u, H b = some u → b ∉ fp := fun b u e z => by rw [(hf b z).1] at e; cases e
  have sm : Same H (upd H T o) := Same.upd1 hn
  have old : ∀ b (u : Obj), s.heap.get? b = some u → upd H T o b = H b := fun b u e => by
    rw [upd_ne]
    rintro rfl
    rw [hT] at e; cases e
  refine I.step (g' := s.gens) (d' := s.drawn) (ch := fp) (fun b hb => ?_) (fun b o _ _ hc e _ => k b o hc e) (fun b o _ _ hc e _ => ⟨o.slots, k b o hc e⟩) (fun b u _ e n => by rw [old b u e]; exact n)
    (fun b o hc e => ⟨o, k b o hc e⟩) (fun b xs e => sm _ _ e) (fun b u v e => sm _ _ e) (fun b ps e => ⟨#[], by rw [sm _ _ e]; simp⟩) (fun m hm => ?_) (fun b u e => ?_) I.bare
  · obtain ⟨f0, f1, f2, f3, f4, f5⟩ := hf b hb
    exact ⟨f3, f1, f4, f5⟩
  · obtain ⟨o, es, ep, ho, r⟩ := hm
    exact ⟨o, es, ep, k _ o (fun z => (hf _ z).2.1 rfl) ho, r⟩
  · by_cases hb : b = T
    · subst hb; rw [upd_same] at e; cases e; exact new
    · rw [upd_ne hb] at e
      refine (I.hok b u e).stay (fun c v hc q => k c v ?_ q) (fun c q => ?_) fun c xs q => ?_
      · rcases hc with z | z
        · rw [z]; exact nit b u e
        · exact nit c _ z
      · exact sm _ _ q
      · exact sm _ _ q
end
def Ite (K : PySem.W.Frag) (a : Addr) : It :=
  ⟨fun i H => ∃ xs x, SqL K H a xs ∧ xs[i]? = some x, fun i H x H' => ∃ T y, x = .ref T ∧ H T = none ∧ H' = upd H T (.tup [.int i, y]) ∧ ∀ xs, SqL K H a xs → xs[i]? = some y, fun i H => ∃ xs, SqL K H a xs ∧ xs.length = i⟩
theorem turn_enum {P : Program} {w : World} {K : PySem.W.Frag} {elts : List Expr} {k : Nat} {pos : Pos} (a e it : Addr) (hei : e ≠ it) : Turn P w K (.Tuple elts k pos) (Ite K a) [e, it] e (fun i h => (∃ old, IsEnum h e it i old) ∧ h.IsListIter it a i) where
  mem := by simp
  obj := fun i h st b hb => by
    obtain ⟨⟨old, he⟩, hit⟩ := st
    rcases List.mem_cons.mp hb with z | z
    · subst z; exact ⟨_, he, fun v z => by cases z⟩
    · have z' : b = it := by simpa using z
      subst z'
      obtain ⟨o, e, c, d⟩ := hit
      exact ⟨o, e, fun v z => by rw [d] at z; cases z⟩
  keep := fun i h h' st kk => ⟨let ⟨old, he⟩ := st.1; ⟨old, kk e (by simp) _ he⟩, st.2.at fun o x => kk it (by simp) o x⟩
  item := by
    intro X hP hw hK hc i pins s σ H E I hf st hg
    subst hP hw hK
    obtain ⟨xs, x, hq, hx⟩ := hg
    obtain ⟨its, rv, p, hz⟩ := I.list hq
    obtain ⟨u, hu, ru⟩ := rv.get hx
    obtain ⟨⟨old, he⟩, hit⟩ := id st
    have hae : e ≠ a := fun z => by
      subst z
      obtain ⟨o, h1, h2, _⟩ := p.isList
      rw [he] at h1; cases h1
      have h2' : Value.type "enumerate" = Value.type "list" := h2
      exact absurd h2' (by decide)
    have hai : a ≠ it := fun z => by
      subst z
      obtain ⟨o, h1, h2, _⟩ := p.isList
      obtain ⟨o', h3, h4, _⟩ := hit
      rw [h1] at h3; cases h3; rw [h2] at h4; exact absurd h4 (by decide)
    have D := Draws.list (prog := X.prog) (w := X.w) (A := X.A.in1) (show X.A.in1.handled = none from I.ok.hd hc) it a hai its.toArray
    have hlt : i < its.toArray.size := by
      have := (List.getElem?_eq_some_iff.mp hu).1
      simpa using this
    refine wpAny_pyNext_enum_itemD D he ⟨hit, p.isList⟩ hlt hei (by simp [hei, hae]) fun x' h' tk hP ho hs' hT hsz hk => ?_
    have hx' : x' = u := by
      have : its[i]? = some x' := by simpa using hP
      rw [hu] at this; exact (Option.some.inj this).symm
    subst hx'
    refine ⟨_, rfl, wpAny_letOwnedTupleGo_enum ho fun h2 he2 hs2 => ?_⟩
    have hTn : s.heap.get? s.heap.objs.size = none := by
      cases g : s.heap.get? s.heap.objs.size with
      | none => rfl
      | some o => exact absurd (Heap.lt_size g) (Nat.lt_irrefl _)
    have hel : e < s.heap.objs.size := Heap.lt_size he
    have hT2 : h2.get? s.heap.objs.size = some { cls := .type "tuple", data := .seq #[.int i tk, x'] } := (hs2.2 _ (Nat.ne_of_gt hel)).trans hT
    refine ⟨.ref s.heap.objs.size, upd H s.heap.objs.size (.tup [.int i, x]), I.turnedT (fp := [e, it]) (h' := h2) (t' := tk + 1) (fun b o hb q => ?_) hf hTn ⟨by show 2 ≤ sizeLine; decide, [.int i tk, x'], .cons ⟨tk, rfl⟩ (.cons ru .nil), ⟨_, hT2, rfl, _, rfl⟩⟩, rfl,
      ⟨_, x, rfl, I.hok.free hTn, rfl, fun ys hy => by rw [I.list_inj hy hq]; exact hx⟩, ⟨⟨_, by simpa using he2⟩, hs'.1.at fun o q => (hs2.2 it (Ne.symm hei)).trans q⟩, fun b hb => ?_⟩
    · have hbe : b ≠ e := fun z => hb (by simp [z])
      have hbi : b ≠ it := fun z => hb (by simp [z])
      exact (hs2.2 b hbe).trans (hk b o hbe hbi q)
    · rw [upd_ne]
      · exact (hf b hb).1
      · rintro rfl
        rcases List.mem_cons.mp hb with z | z
        · exact absurd hel (by rw [z]; exact Nat.lt_irrefl _)
        · have z' : s.heap.objs.size = it := by simpa using z
          obtain ⟨o, h3, _⟩ := hit
          rw [← z', hTn] at h3; cases h3
  done := by
    intro X hP hw hK hc i pins s σ H E I hf st hg
    subst hP hw hK
    obtain ⟨xs, hq, hx⟩ := hg
    obtain ⟨its, rv, p, hz⟩ := I.list hq
    obtain ⟨⟨old, he⟩, hit⟩ := id st
    have hl := rv.length
    have hai : a ≠ it := fun z => by
      subst z
      obtain ⟨o, h1, h2, _⟩ := p.isList
      obtain ⟨o', h3, h4, _⟩ := hit
      rw [h1] at h3; cases h3; rw [h2] at h4; exact absurd h4 (by decide)
    have D := Draws.list (prog := X.prog) (w := X.w) (A := X.A.in1) (show X.A.in1.handled = none from I.ok.hd hc) it a hai its.toArray
    obtain ⟨f0, f1, f2, f3, f4, f5⟩ := hf it (by simp)
    have hi : its.toArray.size = i := by rw [List.size_toArray]; omega
    refine wpAny_pyNext_enum_endD D he ⟨by rw [hi]; exact hit, p.isList⟩ fun h' eb => ⟨rfl, I.turned (t' := s.toks) (fun b o hb e => eb b o hb e) f0 f1 f3 f4 f5⟩
  self := fun A i s Q E st h => let ⟨old, he⟩ := st.1; wpAny_pyIter_enum he h
section
variable {X : Cx} {elts : List Expr} {k : Nat} {tpos : Pos}
def iEnum (K : PySem.W.Frag) (ta : TA) : TI := fun σ H R => ta σ H fun vs H1 => ∃ a xs, vs = [.ref a] ∧ H1 a = some (.lst xs) ∧ R (Ite K a) H1
theorem pi_enum {e : Expr} {ta : TA} {p pos : Pos} (hg : Gl X "enumerate") (hm : X.mg "enumerate" = none) (ha : PA X [e] ta) (hs : starEach [e] X.env = [(false, eval e X.env)] := by rfl) : PI X (.Tuple elts k tpos) (.Call (.Name "enumerate" p) [e] [] pos) (iEnum X.K ta) := by
  intro pins s σ H R I h
  refine Call_ (ld_blt I hg hm boot_enumerate (PyProof.Rows.callWith_type1 (thn (ha pos pins s σ H _ I h) fun us s1 ⟨vs, H1, I1, r1, q1⟩ => ?_) hs rfl))
  obtain ⟨a, xs, rfl, hl, q⟩ := q1
  obtain ⟨u, rfl, ru⟩ := vals1 r1
  cases ru
  obtain ⟨z, its, n, r, e0⟩ := I1.hok a _ hl
  refine call_enumerate_1 e0 fun h' he hit hsz hk => ?_
  have I2 : Inv X pins σ H1 { s1 with heap := h' } := I1.kept (t' := s1.toks) hk
  refine wpAny_pyIter_enum he ⟨_, [s1.heap.objs.size + 1, s1.heap.objs.size], _, _, H1, rfl, I2, turn_enum a _ _ (Nat.succ_ne_self _), ⟨⟨_, he⟩, hit⟩, fun b hb => ?_, q⟩
  have hb' : s1.heap.objs.size ≤ b := by
    rcases List.mem_cons.mp hb with z | z
    · rw [z]; exact Nat.le_succ _
    · have : b = s1.heap.objs.size := by simpa using z
      rw [this]; exact Nat.le_refl _
  exact I1.fpOk hb' (I1.hok.fresh hb')
theorem for_enum {K : PySem.W.Frag} {a : Addr} {xs : List V} {g : TG} {tb : TS} {D : Ends} {σ : St} {H : Hp} (Pv : Nat → St → Hp → Prop) (h0 : Pv 0 σ H) (hk : ∀ i σ H, i ≤ xs.length → Pv i σ H → SqL K H a xs)
    (turn : ∀ (i : Nat) (x : V) (T : Addr) (σ : St) (H : Hp) (Nx : St → Hp → Prop), (∀ σ' H', Pv (i + 1) σ' H' → Nx σ' H') → xs[i]? = some x → Pv i σ H → H T = none → g (.ref T) σ (upd H T (.tup [.int i, x])) fun σ2 H2 => tb { D with nx := Nx, ct := Nx, bk := D.nx } σ2 H2)
    (fin : ∀ σ H, Pv xs.length σ H → D.nx σ H) :
    ∃ W : Nat → Nat → St → Hp → Prop, (∃ m, W 0 m σ H) ∧ ∀ i m σ H, W i m σ H →
      ((Ite K a).stop i H ∧ D.nx σ H) ∨ ((Ite K a).go i H ∧ ∃ N : St → Hp → Prop, (∀ σ' H', N σ' H' → ∃ m', m' < m ∧ W (i + 1) m' σ' H') ∧ ∀ x H', (Ite K a).yld i H x H' → g x σ H' fun σ2 H2 => tb { D with nx := N, ct := N, bk := D.nx } σ2 H2) := by
  refine ⟨fun i m σ H => i ≤ xs.length ∧ m = xs.length - i ∧ Pv i σ H, ⟨xs.length, Nat.zero_le _, rfl, h0⟩, ?_⟩
  rintro i m σ H ⟨hi, rfl, pv⟩
  have hH := hk i σ H hi pv
  by_cases e : i = xs.length
  · subst e
    exact .inl ⟨⟨xs, hH, rfl⟩, fin σ H pv⟩
  · have hi' : i < xs.length := by omega
    refine .inr ⟨⟨xs, xs[i], hH, List.getElem?_eq_getElem hi'⟩, Pv (i + 1), fun σ' H' p => ⟨xs.length - (i + 1), by omega, by omega, rfl, p⟩, fun x H2 hy2 => ?_⟩
    obtain ⟨T, y, rfl, hT, rfl, hy⟩ := hy2
    exact turn i y T σ H (Pv (i + 1)) (fun _ _ p => p) (hy xs hH) pv hT
theorem mt_endswith : MtR X "str.endswith" (fun x vs H Q => ∃ a b : Str, x = .str a ∧ vs = [.str b] ∧ Q (.bl (Txt.endswith a b)) H) := by
  intro pins s σ H x vs v us Q I rx rv h
  obtain ⟨a, b, rfl, rfl, q⟩ := h
  obtain ⟨t, rfl⟩ := rx
  obtain ⟨u, rfl, ru⟩ := vals1 rv
  obtain ⟨t', rfl⟩ := ru
  exact SC.endswith ⟨.bl _, H, I, rfl, q⟩
end
section
variable {X : Cx} {e st : Expr} {te ts : TE} {pos p2 : Pos}
def tRevL (K : PySem.W.Frag) (te ts : TE) : TE := fun σ H Q => te σ H fun x H1 => ts σ H1 fun y H2 => ∃ a xs, x = .ref a ∧ y = .int (-1) ∧ SqL K H2 a xs ∧ ∀ p, H2 p = none → Q (.ref p) (upd H2 p (.lst xs.reverse))
end
end L2
end
section
set_option Elab.async false
set_option linter.all false
set_option maxRecDepth 100000
set_option maxHeartbeats 1000000
namespace L2
open PySem PySem.Spec PyProof.Rows
def PrAt (h : Heap) (D : Addr) (v : Value) (k : Str) (x : Value) : Prop := ∃ b o t n, v = Value.ref b ∧ b ≠ D ∧ h.get? b = some o ∧ o.cls = .type "tuple" ∧ o.data = .seq #[.str k t, x] n
section
variable {prog : Program} {w : World} {A : Around} {R : Result → Shared → Prop}
end
section
variable {X : Cx}
def PrsAt (K : PySem.W.Frag) (H : Hp) (ts : List V) (kvs : List (Str × V)) : Prop := ts.length = kvs.length ∧ ∀ (i : Nat) (q : Str × V), kvs[i]? = some q → ∃ a, ts[i]? = some (.ref a) ∧ SqT K H a [.str q.1, q.2]
def rDictL (K : PySem.W.Frag) : List V → Hp → VK → Prop := fun xs H Q => ∃ p ts kvs, xs = [.ref p] ∧ SqL K H p ts ∧ PrsAt K H ts kvs ∧ (kvs.map (·.1)).Nodup ∧ kvs.length ≤ 1000 ∧ ∀ d, H d = none → Q (.ref d) (upd H d (.dK (encK kvs)))
def rSortedP (K : PySem.W.Frag) : List V → Hp → VK → Prop := fun xs H Q => ∃ p ts kvs, xs = [.ref p] ∧ SqL K H p ts ∧ PrsAt K H ts kvs ∧ (kvs.map (·.1)).Nodup ∧ kvs.length < 64 ∧
  ∀ (pm : List Nat) (l : Addr), pm.Perm (List.range kvs.length) → (pm.map fun i => (kvs.getD i (⟨#[]⟩, .non)).1.cps.toList).Pairwise (· < ·) → H l = none → Q (.ref l) (upd H l (.lst (pm.map fun i => ts.getD i .non)))
end
end L2
end
section
set_option Elab.async false
set_option linter.all false
set_option maxRecDepth 100000
set_option maxHeartbeats 1000000
namespace L2
open PySem PySem.Spec PyProof.Rows
structure Flown (P : Program) (w : World) (outer : List Env) (H : Hp) (s : Shared) (e : Addr) (cls a0 : Value) (B : Heap) (H' : Hp) (s' : Shared) : Prop where
  os : s'.os = s.os
  bare : AllBare s'.gens
  fly : Heap.FlyingW B outer e cls a0 s'.heap
  trB : ∀ b u, H' b = some u → ∃ o, B.get? b = some o
  hok : HOk P w H' s'.heap
  keep : ∀ b o, s.heap.get? b = some o → H b = none → b ∉ frs outer → B.get? b = some o
  slot : ∀ b o, s.heap.get? b = some o → b ∈ frs outer → H b = none → ∃ sl, s'.heap.get? b = some { o with slots := sl }
  free : ∀ b o, s.heap.get? b = some o → H b = none → H' b = none
  there : ∀ b o, s.heap.get? b = some o → b ∉ frs outer → ∃ o', B.get? b = some o'
  tups : ∀ b xs, H b = some (.tup xs) → H' b = some (.tup xs)
  frzs : ∀ b o u, H b = some (.frz o u) → H' b = some (.frz o u)
  tbls : ∀ b ps, H b = some (.tbl ps) → ∃ more, H' b = some (.tbl (ps ++ more))
  ef : H' e = none
def CXr (P : Program) (w : World) : CXT := fun outer H s E ev s' => ∃ (e : Addr) (cls a0 : Value) (B : Heap) (H' : Hp), ev = .ref e ∧ Flown P w outer H s e cls a0 B H' s' ∧ E cls none H'
section
variable {P : Program} {w : World} {outer : List Env} {H H' : Hp} {s s' : Shared} {e : Addr} {cls a0 : Value} {B h' : Heap}
theorem hok_stays (ok : HOk P w H' s'.heap) (trB : ∀ b u, H' b = some u → ∃ o, B.get? b = some o) (st : B.StaysIn s'.heap) (st' : B.StaysIn h') : HOk P w H' h' := fun a u q => by
  refine (ok a u q).stay (fun b v hb r => ?_) (fun _ z => z) fun _ _ z => z
  have hb' : ∃ u', H' b = some u' := by
    rcases hb with z | z
    · rw [z]; exact ⟨u, q⟩
    · exact ⟨_, z⟩
  obtain ⟨u', hu'⟩ := hb'
  obtain ⟨o, ho⟩ := trB b u' hu'
  have := st b o ho
  rw [r] at this
  cases this
  exact st' b _ ho
theorem Flown.un (F : Flown P w outer H s e cls a0 B H' s') (frf : ∀ b ∈ frs outer, H b = none) : Un (frs outer) [] H H' s.heap s'.heap where
  keep := fun b o q n hb _ => F.fly.1 b o (F.keep b o q n hb)
  slot := fun b o q n hb _ => F.slot b o q hb n
  free := fun b o q n _ => F.free b o q n
  there := fun b o q _ => by
    by_cases hb : b ∈ frs outer
    · obtain ⟨sl, z⟩ := F.slot b o q hb (frf b hb)
      exact ⟨_, z⟩
    · obtain ⟨o', z⟩ := F.there b o q hb
      exact ⟨o', F.fly.1 b o' z⟩
  tups := F.tups
  frzs := F.frzs
  tbls := F.tbls
theorem Flown.on {outer : List Env} (F : Flown P w outer H s e cls a0 B H' s') (fly : Heap.FlyingW B outer e cls a0 h') (up : s'.heap.UpToSlots h') (fun' : s'.heap.FunFrames B outer) : Flown P w outer H s e cls a0 B H' { s' with heap := h' } where
  os := F.os
  bare := F.bare
  fly := fly
  trB := F.trB
  hok := hok_stays F.hok F.trB F.fly.1 fly.1
  keep := F.keep
  slot := fun b o q hb n => by
    obtain ⟨sl, z⟩ := F.slot b o q hb n
    obtain ⟨_, o', ho', hd⟩ := fun'.mem hb
    rw [z] at ho'
    cases ho'
    obtain ⟨sl', z'⟩ := up b _ z hd
    exact ⟨sl', z'⟩
  free := F.free
  there := F.there
  tups := F.tups
  frzs := F.frzs
  tbls := F.tbls
  ef := F.ef
end
section
variable {X : Cx} {pins : List (Addr × Obj)} {σ : St} {H H' : Hp} {s s' : Shared} {e : Addr} {cls a0 : Value} {B h' : Heap}
theorem Inv.nstk (I : Inv X pins σ H s) {b : Addr} {o : Obj} (q : X.s₀.heap.get? b = some o) (hb : b ∉ X.fs) : b ∉ frs X.stack := fun z => by
  rcases List.mem_cons.mp (I.stkSub b z) with r | r
  · exact absurd (Nat.lt_of_lt_of_le (Heap.lt_size q) I.ok.above) (by rw [r]; exact Nat.lt_irrefl _)
  · exact hb r
theorem sub_stk (hs : X.stack = X.env :: X.outer) {b : Addr} (hb : b ∈ X.fs) : b ∈ frs X.stack := by
  rw [hs]
  unfold frs
  rw [List.filterMap_cons]
  cases X.env.frame with
  | none => exact hb
  | some L => exact List.mem_cons_of_mem _ hb
theorem Flown.leaves (I : Inv X pins σ H s) (hs : X.stack = X.env :: X.outer) (hf : X.env.frame = some X.env.locals) (hx : X.ex = []) (F : Flown X.prog X.w X.stack H s e cls a0 B H' s') {Q : Unit → Shared → Prop} {E : Value → Shared → Prop} {M : Model}
    (hQ : ∀ s'', Flown X.prog X.w X.outer X.H₀ X.s₀ e cls a0 B H' s'' → Q () s'') : wpAny M X.A (leaving X.env (.ref e)) Q E s' := by
  have fly := F.fly
  rw [hs] at fly
  have fun' := F.fly.2.2.1
  refine wpAny_leaves_onW (by rw [← hs]; exact I.ok.frames) hf fly fun h' fly' up => hQ _ ?_
  have nex : ∀ b : Addr, b ∉ X.ex := fun b z => by rw [hx] at z; cases z
  refine ⟨F.os.trans I.os, F.bare, fly', F.trB, hok_stays F.hok F.trB F.fly.1 fly'.1, fun b o q n hb => ?_, fun b o q hb n => ?_, fun b o q n => ?_, fun b o q hb => ?_, fun b xs q => F.tups b xs (I.base.tups b xs q), fun b o u q => F.frzs b o u (I.base.frzs b o u q), fun b ps q => ?_, F.ef⟩
  · exact F.keep b o (I.base.keep b o q n hb (nex b)) (I.base.free b o q n (nex b)) (I.nstk q hb)
  · obtain ⟨sl, z⟩ := I.base.slot b o q n hb (nex b)
    obtain ⟨sl', z'⟩ := F.slot b _ z (sub_stk hs hb) (I.base.free b o q n (nex b))
    obtain ⟨_, o', ho', hd⟩ := fun'.mem (show b ∈ X.stack.filterMap (·.frame) from sub_stk hs hb)
    rw [z'] at ho'
    cases ho'
    obtain ⟨sl'', z''⟩ := up b _ z' hd
    exact ⟨sl'', z''⟩
  · obtain ⟨o', z⟩ := I.base.there b o q (nex b)
    exact F.free b o' z (I.base.free b o q n (nex b))
  · obtain ⟨o', z⟩ := I.base.there b o q (nex b)
    exact F.there b o' z (I.nstk q hb)
  · obtain ⟨m1, e1⟩ := I.base.tbls b ps q
    obtain ⟨m2, e2⟩ := F.tbls b _ e1
    exact ⟨m1 ++ m2, by rw [e2, Array.append_assoc]⟩
theorem made_leaves {C : Addr} {vs : List Value} (I : Inv X pins σ H s) (hs : X.stack = X.env :: X.outer) (hf : X.env.frame = some X.env.locals) (hx : X.ex = []) (hm : Heap.MadeExcOf s.heap h' e (.ref C) vs) {Q : Unit → Shared → Prop} {E : Value → Shared → Prop} {M : Model}
    (hQ : ∀ s'' a0 B, Flown X.prog X.w X.outer X.H₀ X.s₀ e (.ref C) a0 B H s'' → Q () s'') : wpAny M X.A (leaving X.env (.ref e)) Q E { s with heap := h' } := by
  have fr := I.stack
  have hin : ∀ env ∈ X.stack, ∀ b, env.frame = some b → b ∈ frs X.stack := fun env he b hb => List.mem_filterMap.mpr ⟨env, he, hb⟩
  have fr' := PySem.W.funFrames_hide (as := frs X.stack) fr hin
  rw [hs] at fr'
  have nex : ∀ b : Addr, b ∉ X.ex := fun b z => by rw [hx] at z; cases z
  refine wpAny_leaves_madeW (base := PySem.W.hideAll s.heap (frs X.stack)) (by rw [← hs]; exact I.ok.frames) hf (fun b o q => PySem.W.of_hideAll _ q) (by rw [hs]; exact fr') hm fun h2 t fly tup bt up => hQ _ (.ref t) (PySem.W.hideAll s.heap (frs X.stack)) ?_
  have trB : ∀ b u, H b = some u → ∃ o, (PySem.W.hideAll s.heap (frs X.stack)).get? b = some o := fun b u q => by
    obtain ⟨o, ho⟩ := (I.hok b u q).obj
    exact ⟨o, PySem.W.hideAll_get _ ho fun z => by rw [I.stkFree b z] at q; cases q⟩
  have stS : (PySem.W.hideAll s.heap (frs X.stack)).StaysIn s.heap := fun b o q => PySem.W.of_hideAll _ q
  refine ⟨I.os, I.bare, fly, trB, hok_stays (s' := s) I.hok trB stS fly.1, fun b o q n hb => ?_, fun b o q hb n => ?_, fun b o q n => I.base.free b o q n (nex b), fun b o q hb => ?_, I.base.tups, I.base.frzs, I.base.tbls, I.hok.free hm.new⟩
  · exact PySem.W.hideAll_get _ (I.base.keep b o q n hb (nex b)) (I.nstk q hb)
  · obtain ⟨sl, z⟩ := I.base.slot b o q n hb (nex b)
    obtain ⟨_, o', ho', hd⟩ := fr.mem (show b ∈ X.stack.filterMap (·.frame) from sub_stk hs hb)
    rw [z] at ho'
    cases ho'
    obtain ⟨sl'', z''⟩ := up b _ (hm.keeps b _ z) hd
    exact ⟨sl'', z''⟩
  · obtain ⟨o', z⟩ := I.base.there b o q (nex b)
    exact ⟨o', PySem.W.hideAll_get _ z (I.nstk q hb)⟩
end
structure XOk (X : Cx) (E : XK) : Prop where
  made : ∀ (pins : List (Addr × Obj)) (σ : St) (H : Hp) (s : Shared) (h' : Heap) (e C : Addr) (vs : List Value), Inv X pins σ H s → Heap.MadeExcOf s.heap h' e (.ref C) vs → E (.ref C) none H → X.xe (.ref e) { s with heap := h' }
  pass : Passes (CXr X.prog X.w) X E
theorem xok_fn {P : Program} {w : World} {K : PySem.W.Frag} {mg : Str → Option Value} {base : Heap} {N : List Str} {qual : Str} {scope : Scope} {f : Addr} {cd : Value} {A : Around} {outer : List Env} {s : Shared} {H : Hp} {E : XK} :
    XOk (cxOf (CXr P w) P w K mg base N qual scope f cd A outer s H E) E where
  made := fun pins σ H1 s1 h' e C vs I hm hE => made_leaves I rfl rfl rfl hm fun s'' a0 B F => ⟨e, _, a0, B, H1, rfl, F, hE⟩
  pass := fun pins σ H1 s1 ev s' I ⟨e, cls, a0, B, H', he, F, hE⟩ => by
    subst he
    exact Flown.leaves I rfl rfl rfl F fun s'' F' => ⟨e, cls, a0, B, H', rfl, F', hE⟩
abbrev veMro : List Value := [.type "ValueError", .type "Exception", .type "BaseException", .type "object"]
structure XCls (K : PySem.W.Frag) (mg : Str → Option Value) (x : Str) (C : Addr) : Prop where
  bound : mg x = some (.ref C)
  exc : PySem.W.excIn K C veMro "ValueError.__new__" = true
theorem xcls_obj {K : PySem.W.Frag} {h : Heap} {C : Addr} {newId : String} {bmB : List Value} (X : K.In h) (q : PySem.W.excIn K C bmB newId = true) :
    ∃ bm N nm q bs hdct sn sub ab col dd k0 k1 k2 k3 k5 mN, h.get? C = some (excClassObj nm q C N bs bm hdct sn sub ab col dd k0 k1 k2 k3 k5 newId) ∧ h.Ns N mN ∧ mN "__init__" = none ∧ OwnTail h bmB bm ∧ ∃ cd, K.lookup C = some ⟨.type "type", dd, .cls cd, #[k0, k1, k2, k3, some (.builtin newId), k5]⟩ ∧ cd.mro = .ref C :: bm := by
  unfold PySem.W.excIn at q
  split at q
  · rename_i dd cd sl ho
    split at q
    · rename_i C' bm k0 k1 k2 k3 n k5 hm hs
      simp only [Bool.and_eq_true, beq_iff_eq, Bool.not_eq_true'] at q
      obtain ⟨⟨⟨⟨⟨rfl, rfl⟩, hdel⟩, ht⟩, hok⟩, hni⟩ := q
      obtain ⟨nm, bs, mro, ns, qn, hd, sn, sub, ab, col, del⟩ := cd
      dsimp only at hm hdel hok hni
      subst hm hdel
      have hsl : sl = #[k0, k1, k2, k3, some (.builtin n), k5] := by
        obtain ⟨l⟩ := sl
        simp only at hs
        rw [hs]
      subst hsl
      exact ⟨bm, ns, nm, qn, bs, hd, sn, sub, ab, col, dd, k0, k1, k2, k3, k5, _, X _ _ ho, .of_isNs (PySem.W.isNs_of_in X hok), PySem.W.nsMap_none_of_in X hok hni, PySem.W.tail_of_in X ht, _, ho, rfl⟩
    · cases q
  · cases q
def tRaise (C : Addr) (E : XK) (t : TA) : TS := fun _ σ H => t σ H fun vs H1 => vs.length ≤ sizeLine ∧ E (.ref C) none H1
section
variable {X : Cx}
theorem ps_raise {E : XK} {x : Str} {C : Addr} {np cpos pos : Pos} {e0 : Expr} {es : List Expr} {t : TA} (ok : XOk X E) (hc : X.calm = true) (O : XCls X.K X.mg x C) (hg : Gl X x) (ha : PA X (e0 :: es) t)
    (he : starEach (e0 :: es) X.env = (false, eval e0 X.env) :: starEach es X.env := by rfl) (hplain : (backTo cpos (starEach es X.env)).any (·.1) = false := by rfl) (hdb : (x == ("__debug__" : Str)) = false := by decide) :
    PS X (.Raise (some (.Call (.Name x np) (e0 :: es) [] cpos)) none pos) (tRaise C E t) := by
  intro pins s σ H D I h
  obtain ⟨tl, N, nm, q, bs, hdct, sn, sub, ab, col, dd, k0, k1, k2, k3, k5, mN, hC, hN, hni, T, _⟩ := xcls_obj I.mod.kin O.exc
  refine wpAny_Raise_call_subU (C := C) (nm := nm) (q := q) (N := N) (bs := bs) (bm := tl) (hdct := hdct) (sn := sn) (sub := sub) (ab := ab) (col := col) (dd := dd) (k0 := k0) (k1 := k1) (k2 := k2) (k3 := k3) (k5 := k5)
    PySem.F.excBase_ValueError (by decide) PySem.F.excBase_ValueError (mN := mN) (T.hasType PySem.F.excBase_ValueError.hasBase) (I.ok.hd hc) (by rw [he]; show (false || (backTo cpos (starEach es X.env)).any (·.1)) = false; rw [hplain]; rfl) hni ?_
  refine ld_glob I hg O.bound ⟨rfl, ?_⟩ hdb
  have hpa := ha cpos pins s σ H _ I h
  rw [he] at hpa ⊢
  refine Calls.evalArgs_plain (wpAny_mono hpa (fun vs s₂ h₂ => ?_) fun _ _ y => y)
  obtain ⟨us, H1, I1, r, q1⟩ := h₂
  exact ⟨rfl, by rw [← r.length]; exact q1.1, I1.bk _ _ hC, hN.keeps I1.bk, T.keeps I1.bk, fun h' e hm => ok.made pins σ H1 s₂ h' e C vs I1 hm q1.2⟩
end
section
variable {P : Program} {w : World} {K : PySem.W.Frag} {mg : Str → Option Value} {base : Heap}
theorem Fun.okR {x qual : Str} {st : Stmt} {f : Addr} {fd : FuncData} {N ps : List Str} {k : Nat} {sp : Sp} (F : Fun K x qual st f fd) (S : FnScope N ps (defScope st)) (len : ∀ vs H Q E, sp vs H Q E → vs.length = ps.length)
    (hbody : ∀ (cdv : Value) (A : Around) (outer : List Env) (s : Shared) (H : Hp) (vs : List V) (Q : VK) (E : XK), Room k (A.deeper (envOfC qual (defScope st) s.heap.objs.size f cdv)) → sp vs H Q E → XOk (cxOf (CXr P w) P w K mg base N qual (defScope st) f cdv A outer s H E) E →
      ∃ t, PSs (cxOf (CXr P w) P w K mg base N qual (defScope st) f cdv A outer s H E) (defBody st) t ∧ t { nx := fun _ H' => Q .non H', rt := Q } (start N vs) H) : FnOk P w K mg base (CXr P w) (k + 1) f fd ps sp := by
  obtain ⟨oc, od, kV, doc, pm, an, cdv, ct, osl, rfl, lk, hcd⟩ := F.ex
  refine fn_of lk hcd S len fun A outer s H vs Q E hr hsp => ?_
  exact hbody cdv A outer s H vs Q E hr hsp xok_fn
def CalR (P : Program) (w : World) (K : PySem.W.Frag) (mg : Str → Option Value) (base : Heap) (k : Nat) (x : Str) (ps : List Str) (sp : Sp) : Prop :=
  ∃ (f : Addr) (fd : FuncData), FnOk P w K mg base (CXr P w) k f fd ps sp ∧ mg x = some (.ref f) ∧ PySem.W.keepIn K (.ref f) = true ∧ Binds K fd ps []
theorem pe_calR {X : Cx} {k : Nat} {x : Str} {ps : List Str} {sp : Sp} {p pos : Pos} {e : Expr} {es : List Expr} {t : TA} {E : XK} (C : CalR X.prog X.w X.K X.mg X.base k x ps sp) (ok : Passes (CXr X.prog X.w) X E) (hr : Room k X.A) (hg : Gl X x) (ha : PA X (e :: es) t)
    (hs : starEach (e :: es) X.env = (false, eval e X.env) :: starEach es X.env := by rfl) (hplain : (backTo pos (starEach es X.env)).any (·.1) = false := by rfl)
    (hdb : (x == ("__debug__" : Str)) = false := by decide) : PE X (.Call (.Name x p) (e :: es) [] pos) (tCall sp [] E t) := by
  obtain ⟨f, fd, G, hm, kp, b⟩ := C
  exact pe_call G hr hg hm kp b .nil ok ha hdb hs hplain
end
def XO (e C : Addr) : HO := .ext fun h => ∃ oe vs, h.get? e = some oe ∧ oe.cls = .ref C ∧ oe.data = .fields vs
section
variable {M : Model} {A : Around} {E : Value → Shared → Prop} {h : Heap} {g : Array GenState} {d : Drawn} {t : Nat} {os : OsState}
theorem exc_matches_own {nm q : Str} {C N : Addr} {bs bm : List Value} {hdct : Bool} {sn : List Str} {sub : List Value} {ab : Bool} {col : Option Bool} {dd : Option Addr} {k0 k1 k2 k3 k5 : Option Value} {newId : String}
    {nm' q' : Str} {L N' : Addr} {bs' bm' : List Value} {hdct' : Bool} {sn' : List Str} {sub' : List Value} {ab' : Bool} {col' : Option Bool} {dd' : Option Addr} {j0 j1 j2 j3 j5 : Option Value} {newId' : String} {e : Addr} {oe : Obj} {Q : Bool → Shared → Prop}
    (hC : h.get? C = some (excClassObj nm q C N bs bm hdct sn sub ab col dd k0 k1 k2 k3 k5 newId)) (hL : h.get? L = some (excClassObj nm' q' L N' bs' bm' hdct' sn' sub' ab' col' dd' j0 j1 j2 j3 j5 newId')) (he : h.get? e = some oe) (hcls : oe.cls = .ref C) (hbase : bm'.contains (.type "BaseException") = true)
    (hin : (Value.ref C :: bm).contains (.ref L) = true) (hq : Q true ⟨h, g, d, t, os⟩) : wpAny M A (excMatches (.ref e) (.ref L)) Q E ⟨h, g, d, t, os⟩ := by
  have hcB : (Value.ref L :: bm').contains (.type "BaseException") = true := by rw [List.contains_cons, hbase, Bool.or_true]
  have f := tc_notTuple
  unfold excMatches
  repeat (first | (with_reducible refine wpAny_loadPart_at he ?_; rw [hcls]) | with_reducible refine wpAny_loadPart_at hL ?_ | (with_reducible refine wpAny_isSubtype_exc hL ?_; rw [hcB]) | (with_reducible refine wpAny_isSubtype_exc hC ?_; rw [hin]) | wp_step)
  exact hq
end
abbrev Cx.hand (X : Cx) (e : Addr) : Cx := { X with A := X.A.mark (some (.ref e)), calm := false, xe := fun _ _ => False }
section
variable {X : Cx} {pins : List (Addr × Obj)} {σ : St} {H : Hp} {s : Shared} {e : Addr}
theorem Inv.hand (I : Inv X pins σ H s) (e : Addr) : Inv (X.hand e) pins σ H s :=
  ⟨⟨I.ok.mod, I.ok.kind, I.ok.glob, I.ok.blt, I.ok.above, I.ok.inj, I.ok.has, I.ok.cab, (fun z => by cases z), I.ok.frames, I.ok.stk, I.ok.exf, I.ok.bs, I.ok.bsz, I.ok.noex, I.ok.exfs, I.ok.funs, I.ok.frf⟩, I.os, I.bare, I.base, I.loc, I.cell, I.free, I.freeC, I.pin, I.hok, I.len⟩
theorem Inv.unhand (I : Inv (X.hand e) pins σ H s) (ok : X.Ok) : Inv X pins σ H s :=
  ⟨ok, I.os, I.bare, I.base, I.loc, I.cell, I.free, I.freeC, I.pin, I.hok, I.len⟩
theorem Inv.track {a : Addr} {o : HO} (I : Inv X pins σ H s) (hn : H a = none) (hnew : ∀ b ob, X.s₀.heap.get? b = some ob → b ≠ a) (hL : X.env.locals ≠ a) (hc : ∀ x c, X.env.cells.lookup x = some c → c ≠ a) (hp : ∀ p ∈ X.pn ++ pins, p.1 ≠ a)
    (new : ObjOk X.prog X.w (upd H a o) s.heap a o) : Inv X pins σ (upd H a o) s :=
  ⟨I.ok, I.os, I.bare, ⟨I.base.keep, I.base.slot, fun b ob q n hx => by rw [upd_ne (hnew b ob q)]; exact I.base.free b ob q n hx, I.base.there, fun b xs q => by rw [upd_ne (ne_of_none (I.base.tups b xs q) hn)]; exact I.base.tups b xs q,
    fun b ob u q => by rw [upd_ne (ne_of_none (I.base.frzs b ob u q) hn)]; exact I.base.frzs b ob u q, fun b ps q => let ⟨m, z⟩ := I.base.tbls b ps q; ⟨m, by rw [upd_ne (ne_of_none z hn)]; exact z⟩⟩, I.loc, I.cell, by rw [upd_ne hL]; exact I.free,
    fun x c q => by rw [upd_ne (hc x c q)]; exact I.freeC x c q, fun p q => let ⟨a1, a2, a3⟩ := I.pin p q; ⟨a1, by rw [upd_ne (hp p q)]; exact a2, a3⟩, I.hok.track hn new, I.len⟩
theorem Inv.forget {h' : Heap} {m' : Str → Option Value} {t' : Nat} (I : Inv X pins σ H s) (hn' : h'.Ns X.env.locals m') (hs : Heap.SameBut X.env.locals s.heap h') : Inv X pins (List.replicate X.N.length none) H { s with heap := h', toks := t' } := by
  obtain ⟨m, hn, _⟩ := id I.loc
  obtain ⟨oL, _, _, hoL, _⟩ := id hn
  have cne := I.cne
  have tracked : HOk X.prog X.w H h' := fun b ob q => by
    refine (I.hok b ob q).stay (fun c w' hc r => (hs.2 c ?_).trans r) (fun _ z => z) fun _ _ z => z
    rintro rfl
    rcases hc with z | z
    · have := I.free
      rw [z, q] at this; cases this
    · rw [I.free] at z; cases z
  have neL : ∀ b o, X.s₀.heap.get? b = some o → b ≠ X.env.locals := fun b o e => Nat.ne_of_lt (Nat.lt_of_lt_of_le (Heap.lt_size e) I.ok.above)
  refine ⟨I.ok, I.os, I.bare, ⟨fun b o e n hb hx => ?_, fun b o e n hb hx => ?_, I.base.free, fun b o e hx => ?_, I.base.tups, I.base.frzs, I.base.tbls⟩, ⟨m', hn', fun i x v e1 e2 e3 => ?_⟩, fun y c e => ?_, I.free, I.freeC, fun p hp => ?_, tracked, by simp⟩
  · exact (hs.2 b (neL b o e)).trans (I.base.keep b o e n hb hx)
  · obtain ⟨sl, e1⟩ := I.base.slot b o e n hb hx
    exact ⟨sl, (hs.2 b (neL b o e)).trans e1⟩
  · obtain ⟨o', e1⟩ := I.base.there b o e hx
    exact ⟨o', (hs.2 b (neL b o e)).trans e1⟩
  · rw [List.getElem?_replicate] at e2
    split at e2 <;> cases e2
  · obtain ⟨w', z⟩ := I.cell y c e
    exact ⟨w', z.sameBut hs (cne y c e)⟩
  · obtain ⟨e, n, ne, nf, d⟩ := I.pin p hp
    exact ⟨(hs.2 p.1 ne).trans e, n, ne, nf, d⟩
def subOf (K : PySem.W.Frag) (C L : Addr) : Bool := match K.lookup C with
  | some ⟨_, _, .cls cd, _⟩ => cd.mro.contains (.ref L)
  | _ => false
theorem catches {H' : Hp} {s' : Shared} {C L : Addr} {a0 : Value} {B : Heap} {x n : Str} {i : Nat} {np pos : Pos} {b0 : Stmt} {suite : List Stmt} {D : Ends} (I : Inv X pins σ H s) (hs : X.stack = X.env :: X.outer) (hf : X.env.frame = some X.env.locals) (hx : X.ex = [])
    (F : Flown X.prog X.w X.stack H s e (.ref C) a0 B H' s') (hC : PySem.W.excIn X.K C veMro "ValueError.__new__" = true) (O : XCls X.K X.mg x L) (hsub : subOf X.K C L = true) (hg : Gl X x) (hN : X.N.Nodup) (hi : X.N[i]? = some n) (hl : X.env.scope.names.lookup n = some .local)
    (k : ∀ s2, Inv (X.hand e) pins ((List.replicate X.N.length none).set i (some (.ref e))) (upd H' e (XO e C)) s2 → H' e = none →
      wpAny (model X.prog X.w) (X.hand e).A (execs (b0 :: suite) X.env) (SP (X.hand e) pins { nx := fun _ _ => False, rt := D.rt }) (fun _ _ => False) s2) (hdb : (x == ("__debug__" : Str)) = false := by decide) :
    wpAny (model X.prog X.w) X.A (noteFrame (.ref e) X.env) (fun _ s2 => wpAny (model X.prog X.w) X.A (setFlight (.ref e) none) (fun _ s3 =>
      wpAny (model X.prog X.w) X.A (handleBy (.ref e) X.env [.ExceptHandler (some (.Name x np)) (some n) (b0 :: suite) pos]) (SP X pins D) X.xe s3) X.xe s2) X.xe s' := by
  have fly := F.fly
  have fun' := F.fly.2.2.1
  rw [hs] at fly
  refine wpAny_looks_onW (by rw [← hs]; exact I.ok.frames) hf fly fun h4 held up4 => ?_
  refine wpAny_landsW held fun h5 fly5 up5 => ?_
  have F5 := F.on (h' := h5) (by rw [hs]; exact fly5) (up4.trans up5) fun'
  have I5 : Inv X pins σ H' { s' with heap := h5 } := I.call' F5.os (F5.un I.stkFree) F5.hok F5.bare (fun b z => nomatch z)
  obtain ⟨tl, N, nm, q, bs, hdct, sn, sub, ab, col, dd, k0, k1, k2, k3, k5, mN, hC1, _, _, _, cd, hlk, hmro⟩ := xcls_obj I.mod.kin hC
  obtain ⟨tl', N', nm', q', bs', hdct', sn', sub', ab', col', dd', j0, j1, j2, j3, j5, mN', hL1, _, _, T', _⟩ := xcls_obj I.mod.kin O.exc
  have hin : (Value.ref C :: tl).contains (.ref L) = true := by
    unfold subOf at hsub
    rw [hlk] at hsub
    rw [← hmro]
    exact hsub
  have Ih := I5.hand e
  refine wpAny_handleBy_cons (codeAny_handlers_test (ld_glob (X := X.hand e) Ih hg O.bound ?_ hdb)) (by intro z; cases z)
  obtain ⟨oe, ws, hoe, hoec, hoed, _⟩ := fly5.first
  have hm : ∀ {Q : Bool → Shared → Prop} {E' : Value → Shared → Prop}, Q true { s' with heap := h5 } → wpAny (model X.prog X.w) (X.A.mark (some (.ref e))) (excMatches (.ref e) (.ref L)) Q E' { s' with heap := h5 } := fun {Q E'} hq => by
    obtain ⟨hp, gg, ddd, tt, oo⟩ := s'
    exact exc_matches_own (I5.bk _ _ hC1) (I5.bk _ _ hL1) hoe hoec (T'.hasType PySem.F.excBase_ValueError.hasBase) hin hq
  refine hm ?_
  refine codeAny_handlers_suite_as (lands_againW fly5 fun h6 fly6 up6 => ?_)
  have F6 := F5.on (h' := h6) (by rw [hs]; exact fly6) up6 (by rw [hs]; exact fly5.2.2.1)
  have I6 : Inv X pins σ H' { s' with heap := h6 } := I.call' F6.os (F6.un I.stkFree) F6.hok F6.bare (fun b z => nomatch z)
  obtain ⟨oe6, ws6, hoe6, hoec6, hoed6, _⟩ := fly6.first
  have neB : ∀ b o, s.heap.get? b = some o → b ≠ e := fun b o q z => by
    by_cases hb : b ∈ frs X.stack
    · obtain ⟨_, o', ho', hd⟩ := fun'.mem (show b ∈ X.stack.filterMap (·.frame) from hb)
      obtain ⟨oe', ws', he', _, hed', _⟩ := F.fly.first
      rw [z, he'] at ho'
      cases ho'
      exact hd ws' hed'
    · obtain ⟨o', ho'⟩ := F.there b o q hb
      rw [z, F.fly.2.1] at ho'
      cases ho'
  have I7 : Inv X pins σ (upd H' e (XO e C)) { s' with heap := h6 } := by
    refine I6.track F.ef (fun b ob q z => ?_) (fun z => ?_) (fun y c q z => ?_) (fun p hp z => ?_) ⟨⟨oe6, ws6, hoe6, hoec6, hoed6⟩, ⟨oe6, hoe6⟩, fun h1 h2 ⟨o1, v1, a1, a2, a3⟩ kk => ⟨o1, v1, kk _ a1, a2, a3⟩⟩
    · obtain ⟨o', z'⟩ := I.base.there b ob q (by rw [hx]; simp)
      exact neB b o' z' z
    · obtain ⟨m, ⟨o, es, ep, ho, _⟩, _⟩ := I.loc
      exact neB _ o ho z
    · obtain ⟨v, o, ho, _⟩ := I.cell y c q
      exact neB _ o ho z
    · obtain ⟨a1, _⟩ := I.pin p hp
      exact neB _ _ a1 z
  have I8 : Inv X pins (List.replicate X.N.length none) (upd H' e (XO e C)) { s' with heap := h6 } := I7.weak (by rw [List.length_replicate, I7.len]) fun j v q => by
    rw [List.getElem?_replicate] at q
    split at q <;> cases q
  refine store_ok (X := X.hand e) (v := .ref e) (I8.hand e) hN hi (.inl hl) rfl (fun s2 I9 => ?_) (.inr hl)
  refine wpAny_mono (k s2 I9 F.ef) (fun f s3 h3 => ?_) fun _ _ z => z.elim
  cases f with
  | next => obtain ⟨_, _, _, z⟩ := h3; exact z.elim
  | brk => obtain ⟨_, _, _, z⟩ := h3; exact z.elim
  | cont => obtain ⟨_, _, _, z⟩ := h3; exact z.elim
  | ret u =>
    obtain ⟨v, σ', H2, I10, r, z⟩ := h3
    have I11 := I10.unhand I.ok
    obtain ⟨m, hn, _⟩ := id I11.loc
    refine wpAny_nameGoes hl hn (by rw [I.ok.kind]; rfl) fun h' m' hn' hs' => ?_
    exact ⟨v, _, H2, I11.forget hn' hs', r, z⟩
def tTry (K : PySem.W.Frag) (N : Nat) (i : Nat) (L : Addr) (tb : XK → TS) (ts : TS) : TS := fun D σ H =>
  tb (fun cls _ H' => ∃ C : Addr, cls = .ref C ∧ PySem.W.excIn K C veMro "ValueError.__new__" = true ∧ subOf K C L = true ∧ ∀ e, H' e = none → ts { nx := fun _ _ => False, rt := D.rt } ((List.replicate N none).set i (some (.ref e))) (upd H' e (XO e C))) D σ H
abbrev Cx.tryb (X : Cx) (ET : Value → Shared → Prop) (pn : List (Addr × Obj)) : Cx := { X with xe := ET, pn := pn }
theorem Inv.tryb (I : Inv X pins σ H s) (ET : Value → Shared → Prop) : Inv (X.tryb ET (X.pn ++ pins)) [] σ H s :=
  ⟨⟨I.ok.mod, I.ok.kind, I.ok.glob, I.ok.blt, I.ok.above, I.ok.inj, I.ok.has, I.ok.cab, I.ok.hd, I.ok.frames, I.ok.stk, I.ok.exf, I.ok.bs, I.ok.bsz, I.ok.noex, I.ok.exfs, I.ok.funs, I.ok.frf⟩, I.os, I.bare, I.base, I.loc, I.cell, I.free, I.freeC, fun p hp => I.pin p (by
    have hp' : p ∈ (X.pn ++ pins) ++ [] := hp
    rw [List.append_nil] at hp'
    exact hp'), I.hok, I.len⟩
theorem Inv.untryb {ET : Value → Shared → Prop} {pins' : List (Addr × Obj)} (I : Inv (X.tryb ET (X.pn ++ pins)) pins' σ H s) (ok : X.Ok) : Inv X pins σ H s :=
  ⟨ok, I.os, I.bare, I.base, I.loc, I.cell, I.free, I.freeC, fun p hp => I.pin p (List.mem_append_left _ hp), I.hok, I.len⟩
theorem ps_try {x n : Str} {i : Nat} {L : Addr} {np pos pos' : Pos} {body : List Stmt} {b0 : Stmt} {suite : List Stmt} {tb : XK → TS} {ts : TS} (hs : X.stack = X.env :: X.outer) (hf : X.env.frame = some X.env.locals) (hx : X.ex = []) (O : XCls X.K X.mg x L) (hg : Gl X x) (hN : X.N.Nodup) (hi : X.N[i]? = some n) (hl : X.env.scope.names.lookup n = some .local)
    (hb : ∀ (E : XK) (ET : Value → Shared → Prop) (pn : List (Addr × Obj)), Passes (CXr X.prog X.w) (X.tryb ET pn) E → PSs (X.tryb ET pn) body (tb E)) (hsu : ∀ e, PSs (X.hand e) (b0 :: suite) ts) (hdb : (x == ("__debug__" : Str)) = false := by decide) :
    PS X (.Try body [.ExceptHandler (some (.Name x np)) (some n) (b0 :: suite) pos] [] [] pos') (tTry X.K X.N.length i L tb ts) := by
  intro pins s σ H D I h
  refine wpAny_Try_except ?_
  have main := hb _ (fun ev s1 => wpAny (model X.prog X.w) X.A (noteFrame ev X.env) (fun _ s2 => wpAny (model X.prog X.w) X.A (setFlight ev none) (fun _ s3 =>
      wpAny (model X.prog X.w) X.A (handleBy ev X.env [.ExceptHandler (some (.Name x np)) (some n) (b0 :: suite) pos]) (SP X pins D) X.xe s3) X.xe s2) X.xe s1) (X.pn ++ pins) ?pass [] s σ H D (I.tryb _) h
  case pass =>
    rintro pins' σ' H1 s1 ev s' I1 ⟨e, cls, a0, B, H', rfl, F, C, rfl, hC, hsub, hts⟩
    have I2 := I1.untryb I.ok
    exact catches I2 hs hf hx F hC O hsub hg hN hi hl (fun s2 I9 hn => hsu e pins s2 _ _ _ I9 (hts e hn)) hdb
  refine wpAny_mono main (fun f s1 h1 => ?_) fun ev s1 h1 => h1
  have h2 : SP X pins D f s1 := by
    cases f with
    | next => obtain ⟨σ', H', J, q⟩ := h1; exact ⟨σ', H', J.untryb I.ok, q⟩
    | brk => obtain ⟨σ', H', J, q⟩ := h1; exact ⟨σ', H', J.untryb I.ok, q⟩
    | cont => obtain ⟨σ', H', J, q⟩ := h1; exact ⟨σ', H', J.untryb I.ok, q⟩
    | ret u => obtain ⟨v, σ', H', J, r, q⟩ := h1; exact ⟨v, σ', H', J.untryb I.ok, r, q⟩
  cases f with
  | next => exact wpAny_execs_nil h2
  | ret u => exact h2
  | brk => exact h2
  | cont => exact h2
end
structure RoomB (k : Nat) (A : Around) : Prop where
  dp : A.depth + 3 * k + 5 < recursionLimit
  un : A.units + 16 * k + 200 < cLine
theorem RoomB.deeper {k : Nat} {A : Around} (r : RoomB (k + 1) A) (env : Env) : RoomB k (A.deeper env) :=
  ⟨by have := r.dp; show A.depth + 1 + 3 * k + 5 < _; omega, by have := r.un; show A.units + 3 + 16 * k + 200 < _; omega⟩
theorem RoomB.depth {k : Nat} {A : Around} (r : RoomB k A) : A.depth < recursionLimit := by have := r.dp; omega
theorem RoomB.units {k : Nat} {A : Around} (r : RoomB k A) : A.units + 64 < cLine := by have := r.un; omega
theorem Room.busy {k : Nat} {A : Around} (r : Room k A) (v : Option Value) : RoomB k (A.mark v) := ⟨r.dp, r.un⟩
def cxB (CX : CXT) (P : Program) (w : World) (K : PySem.W.Frag) (mg : Str → Option Value) (base : Heap) (N : List Str) (qual : Str) (scope : Scope) (f : Addr) (cd : Value) (A : Around) (outer : List Env) (s : Shared) (H : Hp) (E : XK) : Cx :=
  { cxOf CX P w K mg base N qual scope f cd A outer s H E with calm := false }
structure FnB (P : Program) (w : World) (K : PySem.W.Frag) (mg : Str → Option Value) (base : Heap) (CX : CXT) (k : Nat) (f : Addr) (fd : FuncData) (ps : List Str) (sp : Sp) : Prop where
  len : ∀ vs H Q E, sp vs H Q E → vs.length = ps.length
  run : ∀ (A : Around) (outer : List Env) (s : Shared) (H : Hp) (args : Args) (us : List Value) (vs : List V) (Q : VK) (E : XK), RoomB k A → Env0 P w K mg base A outer s H → BindsTo s fd args (ps.zip us) → Vals vs us → sp vs H Q E →
    codeAny (model P w) A (.call (.ref f) args) (CR CX outer P w H s Q E) s
theorem inv_startB {CX : CXT} {P : Program} {w : World} {K : PySem.W.Frag} {mg : Str → Option Value} {base : Heap} {N ps : List Str} {qual : Str} {scope : Scope} {f : Addr} {cd : Value} {A : Around} {outer : List Env} {s s1 : Shared} {H : Hp} {E : XK} {us : List Value} {vs : List V}
    (S : FnScope N ps scope) (e0 : Env0 P w K mg base A outer s H) (hl : vs.length = ps.length) (r : Vals vs us)
    (x : InCallC s s.heap.objs.size (bindL (envOfC qual scope s.heap.objs.size f cd).kindOf (ps.zip us) fun _ => none) (cellsFrom (s.heap.objs.size + 1) scope.names []) (bindC (envOfC qual scope s.heap.objs.size f cd).kindOf (ps.zip us) fun _ => none) s1) :
    Inv (cxB CX P w K mg base N qual scope f cd A outer s H E) [] (start N vs) H s1 := by
  have hpl : ps.length ≤ N.length := by have := congrArg List.length S.pre; rw [List.length_take] at this; omega
  obtain ⟨h1, tk, rfl, hk⟩ := x.done
  have noA : ∀ b : Addr, b ∉ (cxB CX P w K mg base N qual scope f cd A outer s H E).ex := fun b z => absurd (show b ∈ ([] : List Addr) from z) (by simp)
  refine ⟨⟨e0.mod, S.kind, rfl, rfl, Nat.le_refl _, fun y z c h1 h2 => ?_, fun y hy => ?_, fun y c _ h => ?_, (fun z => by cases z), Around.frames_deeper e0.frames, .inr ⟨rfl, rfl⟩, fun b z => absurd z (noA b), e0.bs, e0.bsz, fun b _ _ => noA b, fun b z => absurd z (noA b), e0.funs, e0.frf⟩,
    rfl, e0.bare, Un.kept hk, ⟨_, x.toInCall.ns, fun i y v h1 h2 h3 => ?_⟩, fun y c h => ⟨_, x.cell y c h⟩, e0.hok.fresh (Nat.le_refl _), fun y c h => ?_, fun p hp => absurd (show p ∈ ([] : List (Addr × Obj)) from hp) (by simp), e0.hok.kept hk, ?_⟩
  · exact name_of_addr x.apart (PySem.mem_of_lookup h1) (PySem.mem_of_lookup h2)
  · have hy : scope.names.lookup y = some .cell ∨ scope.names.lookup y = some .free := hy
    rcases hy with hy | hy
    · exact cell_has hy
    · exact absurd rfl (S.nofree _ (PySem.mem_of_lookup hy))
  · exact Nat.le_of_lt (x.above y c (PySem.mem_of_lookup h))
  · have hi : i < vs.length := by
      unfold start at h2
      by_cases hi : i < vs.length
      · exact hi
      · rw [List.getElem?_append_right (by simpa using hi)] at h2
        rw [List.getElem?_replicate] at h2
        split at h2 <;> cases h2
    have ha : vs[i]? = some v := by
      unfold start at h2
      rw [List.getElem?_append_left (by simpa using hi), List.getElem?_map] at h2
      cases e : vs[i]? with
      | none => rw [e] at h2; cases h2
      | some a => rw [e] at h2; cases h2; rfl
    obtain ⟨u, hu, rv⟩ := r.get ha
    have hp : ps[i]? = some y := by
      rw [← S.pre, List.getElem?_take_of_lt (by omega)]; exact h1
    have ndP : ps.Nodup := by rw [← S.pre]; exact S.nd.sublist (List.take_sublist _ _)
    refine ⟨u, rv, ?_⟩
    rcases S.par y (List.mem_of_getElem? hp) with k | k
    · exact .inl ⟨k, bindL_get ndP hp hu k⟩
    · obtain ⟨c, e⟩ := cell_has (n := s.heap.objs.size + 1) k
      refine .inr ⟨.inl k, c, e, ?_⟩
      have q := x.cell y c e
      rw [bindC_get ndP hp hu (by show scope.names.lookup y ≠ _; rw [k]; decide)] at q
      exact q
  · exact e0.hok.fresh (Nat.le_of_lt (x.above y c (PySem.mem_of_lookup h)))
  · unfold start
    show _ = N.length
    rw [List.length_append, List.length_map, List.length_replicate]
    omega
theorem fn_ofB {CX : CXT} {P : Program} {w : World} {K : PySem.W.Frag} {mg : Str → Option Value} {base : Heap} {k : Nat} {f : Addr} {name qual : Str} {params : Arguments} {body : List Stmt} {scope : Scope} {dV kV doc pm cdv ct oc : Value} {an od : Option Addr}
    {osl : Array (Option Value)} {N ps : List Str} {sp : Sp} (lk : K.lookup f = some ⟨oc, od, .func (PySem.W.fnOf name qual params body scope dV kV doc pm an cdv ct), osl⟩) (hcd : PySem.W.codeIn K cdv qual = true) (S : FnScope N ps scope)
    (len : ∀ vs H Q E, sp vs H Q E → vs.length = ps.length)
    (hbody : ∀ (A : Around) (outer : List Env) (s : Shared) (H : Hp) (vs : List V) (Q : VK) (E : XK), RoomB k (A.deeper (envOfC qual scope s.heap.objs.size f cdv)) → sp vs H Q E →
      ∃ t, PSs (cxB CX P w K mg base N qual scope f cdv A outer s H E) body t ∧ t { nx := fun _ H' => Q .non H', rt := Q } (start N vs) H) :
    FnB P w K mg base CX (k + 1) f (PySem.W.fnOf name qual params body scope dV kV doc pm an cdv ct) ps sp := by
  refine ⟨len, fun A outer s H args us vs Q E hr e0 hb r hsp => ?_⟩
  have hl := len _ _ _ _ hsp
  have KX : K.In s.heap := e0.mod.kin.keeps fun b o e => (e0.bs b o e).1
  have lim : s.heap.NoLimit := e0.mod.nolimit.keeps fun b o e => (e0.bs b o e).1
  have hkind : ∀ y ∈ ps.zip us, scope.names.lookup y.1 = some .local ∨ (scope.names.lookup y.1 = some .cell ∧ ((cellsFrom (s.heap.objs.size + 1) scope.names []).lookup y.1).isSome = true) := fun ⟨n, v⟩ hy => by
    rcases S.par n (List.of_mem_zip hy).1 with q | q
    · exact .inl q
    · exact .inr ⟨q, PySem.W.cellsFrom_some _ _ _ (.inl q)⟩
  refine codeAny_call_function hr.depth (KX _ _ lk) rfl S.co S.gen rfl (PySem.W.codeRec_of KX hcd) (hb _ _ _ _ ?_)
  refine wpAny_newFunctionEnv_cells S.kind hkind fun env he s1 x => ?_
  subst he
  refine ⟨lim.keeps x.toInCall.keep, codeAny_func ?_⟩
  obtain ⟨t, ht, hq⟩ := hbody A outer s H vs Q E (hr.deeper _) hsp
  have I : Inv (cxB CX P w K mg base N qual scope f cdv A outer s H E) [] (start N vs) H s1 := inv_startB S e0 hl r x
  refine wpAny_mono (ht [] s1 (start N vs) H _ I hq) (fun fl s' hs => ?_) fun e s' hs => hs
  have fin : ∀ {σ' : St} {H' : Hp} {v : V} {u : Value}, Inv (cxB CX P w K mg base N qual scope f cdv A outer s H E) [] σ' H' s' → RelV v u → Q v H' → CE outer P w H s Q u s' :=
    fun {σ' H' v u} J rv q => ⟨v, H', J.os, J.bare, J.base, J.hok, rv, q⟩
  cases fl with
  | ret u =>
    obtain ⟨v, σ', H', J, rv, q⟩ := hs
    exact fin J rv q
  | next =>
    obtain ⟨σ', H', J, q⟩ := hs
    exact fin (v := V.non) (u := Value.none) J rfl q
  | brk =>
    obtain ⟨_, _, _, q⟩ := hs
    exact False.elim q
  | cont =>
    obtain ⟨_, _, _, q⟩ := hs
    exact False.elim q
section
variable {P : Program} {w : World} {K : PySem.W.Frag} {mg : Str → Option Value} {base : Heap}
theorem Fun.okB {x qual : Str} {st : Stmt} {f : Addr} {fd : FuncData} {N ps : List Str} {k : Nat} {sp : Sp} (F : Fun K x qual st f fd) (S : FnScope N ps (defScope st)) (len : ∀ vs H Q E, sp vs H Q E → vs.length = ps.length)
    (hbody : ∀ (cdv : Value) (A : Around) (outer : List Env) (s : Shared) (H : Hp) (vs : List V) (Q : VK) (E : XK), RoomB k (A.deeper (envOfC qual (defScope st) s.heap.objs.size f cdv)) → sp vs H Q E →
      ∃ t, PSs (cxB CX0 P w K mg base N qual (defScope st) f cdv A outer s H E).nox (defBody st) t ∧ t { nx := fun _ H' => Q .non H', rt := Q } (start N vs) H) : FnB P w K mg base CX0 (k + 1) f fd ps sp := by
  obtain ⟨oc, od, kV, doc, pm, an, cdv, ct, osl, rfl, lk, hcd⟩ := F.ex
  refine fn_ofB lk hcd S len fun A outer s H vs Q E hr hsp => ?_
  obtain ⟨t, h, q⟩ := hbody cdv A outer s H vs Q E hr hsp
  exact ⟨t, h.nox, q⟩
def CalB (P : Program) (w : World) (K : PySem.W.Frag) (mg : Str → Option Value) (base : Heap) (k : Nat) (x : Str) (ps : List Str) (sp : Sp) : Prop :=
  ∃ (f : Addr) (fd : FuncData), FnB P w K mg base CX0 k f fd ps sp ∧ mg x = some (.ref f) ∧ PySem.W.keepIn K (.ref f) = true ∧ Binds K fd ps []
theorem run_fnB {X : Cx} {k : Nat} {f : Addr} {fd : FuncData} {ps : List Str} {sp : Sp} {pins : List (Addr × Obj)} {σ : St} {H : Hp} {s : Shared} {Q : VK} {us : List Value} {vs : List V} (F : FnB X.prog X.w X.K X.mg X.base CX0 k f fd ps sp) (hr : RoomB k X.A) (hb : Binds X.K fd ps [])
    (I : Inv X pins σ H s) (r : Vals vs us) (h : sp (vs ++ []) H Q E0) : wpAny (model X.prog X.w) X.A (call (.ref f) us) (EP X pins σ Q) X.xe s := by
  have r2 : Vals (vs ++ []) (us ++ []) := r.append .nil
  have hl : (us ++ []).length = ps.length := by rw [← r2.length]; exact F.len _ _ _ _ h
  refine wpAny_call (codeAny_mono (F.run X.A X.stack s H ⟨us, []⟩ (us ++ []) (vs ++ []) Q E0 hr I.env0 (hb s us I.kIn hl) r2 h) fun r s' hq => ?_)
  cases r with
  | error e => exact False.elim hq
  | ok fl =>
    cases fl with
    | ret u => exact I.after hq
    | next => exact False.elim hq
    | brk => exact False.elim hq
    | cont => exact False.elim hq
theorem pe_calB {X : Cx} {k : Nat} {x : Str} {ps : List Str} {sp : Sp} {p pos : Pos} {e : Expr} {es : List Expr} {t : TA} (C : CalB X.prog X.w X.K X.mg X.base k x ps sp) (hr : RoomB k X.A) (hg : Gl X x) (ha : PA X (e :: es) t)
    (hs : starEach (e :: es) X.env = (false, eval e X.env) :: starEach es X.env := by rfl) (hplain : (backTo pos (starEach es X.env)).any (·.1) = false := by rfl)
    (hdb : (x == ("__debug__" : Str)) = false := by decide) : PE X (.Call (.Name x p) (e :: es) [] pos) (tCall sp [] E0 t) := by
  obtain ⟨f, fd, G, hm, kp, b⟩ := C
  intro pins s σ H Q I h
  refine wpAny_Call_Name_kw (ld_glob I hg hm ?_ hdb)
  refine PySem.W.callWith_K (h₀ := X.base) I.ok.mod.kin kp (thn (ha pos pins s σ H _ I h) fun us s1 ⟨vs, H1, I1, r, q⟩ => ⟨I1.kIn, ?_⟩) hs hplain
  exact run_fnB G hr b I1 r q
end
end L2
end
section
set_option Elab.async false
set_option linter.all false
set_option maxRecDepth 100000
set_option maxHeartbeats 1000000
namespace L2
open PySem PySem.Spec PyProof.Rows
structure XLook (K : PySem.W.Frag) (C : Addr) : Prop where
  exc : PySem.W.excIn K C veMro "ValueError.__new__" = true
  ga : PySem.W.findIn K (.ref C) "__getattribute__" = some (some (.builtin "BaseException.__getattribute__"))
  gn : PySem.W.findIn K (.ref C) "__getattr__" = some none
  cl : PySem.W.findIn K (.ref C) "__class__" = some (some (.builtin "object.__class__"))
  mo : PySem.W.mroIn K C (.type "object") = some true
section
variable {prog : Program} {w : World} {A : Around} {E : Value → Shared → Prop} {h : Heap} {g : Array GenState} {d : Drawn} {t : Nat} {os : OsState} {K : PySem.W.Frag} {C a : Addr} {o : Obj} {vs : Array Value}
theorem lk_at {M : Model} {name : Str} {r : Option Value} {Q : Option Value → Shared → Prop} (X : K.In h) (e : PySem.W.findIn K (.ref C) name = some r) (hq : Q r ⟨h, g, d, t, os⟩) : wpAny M A (typeLookup (.ref C) name) Q E ⟨h, g, d, t, os⟩ :=
  PySem.W.looks_findIn X e A Q E _ (fun _ _ z => z) hq
theorem exc_check {M : Model} {nameV : Value} {Q : Unit → Shared → Prop} (X : K.In h) (L : XLook K C) (hx : h.get? a = some o) (hc : o.cls = .ref C) (hq : Q () ⟨h, g, d, t, os⟩) :
    wpAny M A (checkBuiltinCall "BaseException.__getattribute__" ⟨[.ref a, nameV], []⟩) Q E ⟨h, g, d, t, os⟩ := by
  obtain ⟨tl, N, nm, q, bs, hdct, sn, sub, ab, col, dd, k0, k1, k2, k3, k5, mN, hC, hN, hni, T, _⟩ := xcls_obj X L.exc
  have hk : builtinKind "BaseException.__getattribute__" = some .slot := by decide +kernel
  have hsplit : splitId "BaseException.__getattribute__" = some ("BaseException", "__getattribute__") := by decide +kernel
  have hcB : (Value.ref C :: tl).contains (.type "BaseException") = true := by rw [List.contains_cons, T.hasType PySem.F.excBase_ValueError.hasBase]; rfl
  have ha := PySem.F.args_bexc_ga (.ref a) nameV
  simp only [checkBuiltinCall, hk, hsplit]
  refine wpAny_bind ?_
  · unfold isInstance
    repeat (first | (with_reducible refine wpAny_loadPart_at hx ?_; rw [hc]) | (with_reducible refine wpAny_isSubtype_exc hC ?_; rw [hcB]) | wp_step)
    exact hq
theorem exc_get {R : Result → Shared → Prop} (X : K.In h) (L : XLook K C) (hx : h.get? a = some o) (hc : o.cls = .ref C) (hq : R (.ok (.ret (.ref C))) ⟨h, g, d, t, os⟩) :
    codeAny (model prog w) A (.call (.builtin "getset_descriptor.__get__") ⟨[.builtin "object.__class__", .ref a, .ref C], []⟩) R ⟨h, g, d, t, os⟩ := by
  obtain ⟨tl, N, nm, q, bs, hdct, sn, sub, ab, col, dd, k0, k1, k2, k3, k5, mN, hC, hN, hni, T, _⟩ := xcls_obj X L.exc
  have hT5 : (⟨h, g, d, t, os⟩ : Shared).TypeIs (.builtin "object.__class__") "getset_descriptor" := PySem.F.typeOf_object_class
  have hcB : (Value.ref C :: tl).contains (.type (".".intercalate ("object.__class__".cutAt '.').dropLast)) = true := by
    rw [PySem.F.owner_object_class, List.contains_cons, T.hasType (X := "object") (b := true) (by decide)]; rfl
  refine codeAny_call_builtin PySem.F.slot_gs_get.plain PySem.F.entry_gs_get (PySem.F.slot_gs_get.check _ _ _ _ _ _ _ _ hT5 (PySem.F.args_gs_get _ _ _) ?_)
  repeat (any_goals (first | assumption | (with_reducible refine wpAny_loadPart_at hx ?_; rw [hc]) | (with_reducible refine wpAny_isSubtype_exc hC ?_; rw [hcB]) | wp_step))
  refine ⟨Code.quiet_builtin _ (by decide +kernel), codeAny_builtin PySem.F.entry_object_class ?_⟩
  repeat (any_goals (first | assumption | (with_reducible refine wpAny_loadPart_at hx ?_; rw [hc]) | wp_step))
theorem exc_entry {tk : Tok} {Q : PySem.Fin → Shared → Prop} (X : K.In h) (L : XLook K C) (hx : h.get? a = some o) (hc : o.cls = .ref C) (hq : Q (.done (.ret (.ref C))) ⟨h, g, d, t, os⟩) :
    wpAny (model prog w) A (Builtin.«object.__getattribute__» ⟨[.ref a, .str "__class__" tk], []⟩) Q E ⟨h, g, d, t, os⟩ := by
  have hT5 : (⟨h, g, d, t, os⟩ : Shared).TypeIs (.builtin "object.__class__") "getset_descriptor" := PySem.F.typeOf_object_class
  have f5 := PySem.F.typeOf_object_class
  have f6 := PySem.F.slot_gs_get.lookup
  have f7 := PySem.F.slot_gs_set.lookup
  repeat (any_goals (first | assumption | (with_reducible refine wpAny_loadPart_at hx ?_; rw [hc]) | with_reducible refine lk_at X L.cl ?_ | wp_step))
  refine exc_get X L hx hc ?_
  repeat (any_goals (first | assumption | wp_step))
theorem exc_by {tk : Tok} {fill expr : Bool} {Q : Value → Shared → Prop} (X : K.In h) (L : XLook K C) (hx : h.get? a = some o) (hc : o.cls = .ref C) (hq : Q (.ref C) ⟨h, g, d, t, os⟩) :
    wpAny (model prog w) A (getAttrBy (.ref a) (.str "__class__" tk) fill expr) Q E ⟨h, g, d, t, os⟩ := by
  have f3 := PySem.F.attr_ValueError.ga.bind (.ref a)
  have hx0 : (expr && onTheHeap (Value.builtin "BaseException.__getattribute__")) = false := by cases expr <;> rfl
  have hx2 : (Value.builtin "BaseException.__getattribute__" == Value.builtin "object.__getattribute__") = false := by decide +kernel
  have hx1 : (onTheHeap (Value.ref C) && Value.builtin "BaseException.__getattribute__" == Value.builtin "object.__getattribute__") = false := by rw [hx2]; rfl
  repeat (any_goals (first | assumption | (with_reducible refine wpAny_loadPart_at hx ?_; rw [hc]) | with_reducible refine lk_at X L.ga ?_ | with_reducible refine lk_at X L.gn ?_ | wp_step))
  refine codeAny_call_builtin PySem.F.attr_ValueError.ga.plain PySem.F.entry_bexc_ga (exc_check X L hx hc (exc_entry X L hx hc ?_))
  repeat (any_goals (first | assumption | wp_step))
theorem exc_attr {Q : Option Value → Shared → Prop} (X : K.In h) (L : XLook K C) (hx : h.get? a = some o) (hc : o.cls = .ref C) (hq : Q (some (.ref C)) ⟨h, g, d, t + 1, os⟩) :
    wpAny (model prog w) A (getAttr? (.ref a) "__class__") Q E ⟨h, g, d, t, os⟩ := by
  unfold getAttr? getAttrBy?
  repeat (any_goals (first | assumption | with_reducible apply exc_by X L hx hc | wp_step))
end
theorem kitx_exc {K : PySem.W.Frag} {e C : Addr} (L : XLook K C) : PySem.W.KitX K (.ref e) (.ref C) (fun h => ∃ oe vs, h.get? e = some oe ∧ oe.cls = .ref C ∧ oe.data = .fields vs) where
  ty := fun M h X ⟨oe, vs, h1, h2, h3⟩ => by
    intro A Q E s k hq
    obtain ⟨hp, g, d, t, os⟩ := s
    have h1' := k _ _ h1
    repeat (first | (with_reducible refine wpAny_loadPart_at h1' ?_; rw [h2]) | wp_step)
    exact hq
  it := fun M h X _ => by
    obtain ⟨tl, N, nm, q, bs, hdct, sn, sub, ab, col, dd, k0, k1, k2, k3, k5, mN, hC, hN, hni, T, _⟩ := xcls_obj X L.exc
    intro A Q E s k hq
    unfold isType loadHead
    exact wpAny_bind (wpAny_loadPart (k _ _ hC) (wpAny_pure hq))
  ne := fun h tp dd its n sl X htp => by
    obtain ⟨tl, N, nm, q, bs, hdct, sn, sub, ab, col, dd', k0, k1, k2, k3, k5, mN, hC, hN, hni, T, _⟩ := xcls_obj X L.exc
    refine Bool.eq_false_iff.mpr fun z => ?_
    have e' : C = tp := Value.ref.inj (beq_iff_eq.mp z)
    subst e'
    rw [hC] at htp
    have z2 : Value.type "type" = Value.type "tuple" := congrArg Obj.cls (Option.some.inj htp)
    exact absurd (Value.type.inj z2) (by decide)
  ca := fun {prog w A E Q s} X ⟨oe, vs, h1, h2, h3⟩ hq => by
    obtain ⟨hp, g, d, t, os⟩ := s
    exact exc_attr X L h1 h2 hq
section
variable {X : Cx}
theorem call_isinstX : CallR X (.builtin "isinstance") (fun xs H Q => ∃ e C c b, xs = [.ref e, c] ∧ H e = some (XO e C) ∧ XLook X.K C ∧ ((∃ D, c = .ref D ∧ PySem.W.kitOne X.K (.ref C) (.ref D) = some b) ∨ (∃ T, c = .ty T ∧ PySem.W.kitOne X.K (.ref C) (.type T) = some b)) ∧ Q (.bl b) H) := by
  intro pins s σ H xs us Q I r h
  obtain ⟨e, C, c, b, rfl, he, L, hb, q⟩ := h
  obtain ⟨u, w', rfl, rx, rc⟩ := vals2 r
  cases rx
  obtain ⟨p, _, _⟩ := I.hok e _ he
  rcases hb with ⟨D, rfl, hk⟩ | ⟨T, rfl, hk⟩
  · cases rc
    exact PySem.W.kia_one (kitx_exc L) I.kIn p hk (fun z => nomatch z) fun tk => ⟨.bl b, H, I.tok tk, rfl, q⟩
  · cases rc
    exact PySem.W.kia_one (kitx_exc L) I.kIn p hk (fun z => nomatch z) fun tk => ⟨.bl b, H, I.tok tk, rfl, q⟩
end
end L2
end
section
set_option Elab.async false
set_option linter.all false
set_option maxRecDepth 100000
set_option maxHeartbeats 1000000
namespace L2
open PySem PySem.Spec PyProof.Rows
section
variable {X : Cx}
theorem eqg_bool (a b : Bool) : PySem.MeetsSeq.EqGives (.bool a) (.bool b) (a == b) := fun prog w A E s Q h => SeqAt.EqAt.bool_bool a b prog w _ _ h
theorem bls_vals {bs : List Bool} : ∀ {us : List Value}, Vals (bs.map V.bl) us → us = bs.map Value.bool := by
  induction bs with
  | nil => intro us r; cases r; rfl
  | cons b bs ih =>
    intro us r
    rw [List.map_cons] at r
    cases r with
    | cons r1 r2 => rw [List.map_cons, ← ih r2, (show _ = Value.bool b from r1)]
def isB (b : Bool) : Value → Bool
  | .bool a => a == b
  | _ => false
theorem mt_countB : MtM X "list.count" (fun x vs H Q => ∃ (l : Addr) (bs : List Bool) (b : Bool), x = .ref l ∧ vs = [.bl b] ∧ H l = some (.lst (bs.map V.bl)) ∧ Q (.int (bs.count b : Nat)) H) := by
  intro pins s σ H x vs v us Q I rx rv h
  obtain ⟨l, bs, b, rfl, rfl, hH, q⟩ := h
  cases rx
  obtain ⟨u, rfl, ru⟩ := rv.one
  cases ru
  obtain ⟨z, its, n, r, hl, e⟩ := I.lstM hH
  have hi := bls_vals r
  subst hi
  refine call_meets PySem.F.slot_list_count ⟨_, e, rfl⟩ PySem.F.entry_list_count (PySem.F.args_list_count_2 _ _) (MeetsSeq.list_count l _ n _ (isB b) (fun y hy => ?_)) ⟨e, ?_⟩
  · obtain ⟨a, _, rfl⟩ := List.mem_map.mp (by simpa using hy : y ∈ bs.map Value.bool)
    exact eqg_bool a b
  · refine ⟨.int (bs.count b : Nat), H, I.tok _, ⟨s.toks, ?_⟩, q⟩
    have : (bs.map Value.bool).countP (isB b) = bs.count b := by
      rw [List.countP_map, List.count]
      rfl
    simp only [List.toList_toArray, this]
theorem mt_indexB : MtM X "list.index" (fun x vs H Q => ∃ (l : Addr) (bs : List Bool) (b : Bool) (j : Nat), x = .ref l ∧ vs = [.bl b] ∧ H l = some (.lst (bs.map V.bl)) ∧ bs[j]? = some b ∧ (∀ i, i < j → bs[i]? ≠ some b) ∧ j < 1000 ∧ Q (.int (j : Nat)) H) := by
  intro pins s σ H x vs v us Q I rx rv h
  obtain ⟨l, bs, b, j, rfl, rfl, hH, hj, hno, hz, q⟩ := h
  cases rx
  obtain ⟨u, rfl, ru⟩ := rv.one
  cases ru
  obtain ⟨z, its, n, r, hl, e⟩ := I.lstM hH
  have hi := bls_vals r
  subst hi
  have hjl : j < bs.length := (List.getElem?_eq_some_iff.mp hj).1
  refine call_meets PySem.F.slot_list_index ⟨_, e, rfl⟩ PySem.F.entry_list_index (PySem.F.args_list_index_2 _ _) (MeetsSeq.list_index l _ n _ (isB b) (fun y hy => ?_) j (by simpa using hjl) (by omega) ?_ (fun m hm hmj => ?_)) ⟨e, ?_⟩
  · obtain ⟨a, _, rfl⟩ := List.mem_map.mp (by simpa using hy : y ∈ bs.map Value.bool)
    exact eqg_bool a b
  · have := (List.getElem?_eq_some_iff.mp hj).2
    simp [isB, this]
  · have hm' : m < bs.length := by simpa using hm
    have := hno m hmj
    rw [List.getElem?_eq_getElem hm'] at this
    have h2 : bs[m] ≠ b := fun z => this (by rw [z])
    simp [isB, h2]
  · exact ⟨.int (j : Nat), H, I.tok _, ⟨_, rfl⟩, q⟩
end
end L2
end
section
set_option Elab.async false
set_option linter.all false
set_option maxRecDepth 100000
set_option maxHeartbeats 1000000
namespace L2
open PySem PySem.Spec PyProof.Rows
section
variable {X : Cx}
def rRepT (K : PySem.W.Frag) : R2 := fun x y H Q => ∃ l k xs, x = .ref l ∧ y = .int k ∧ SqT K H l xs ∧ xs ≠ [] ∧ 2 ≤ k ∧ k < 1000 ∧ xs.length * k.toNat ≤ sizeLine ∧ ∀ p, H p = none → Q (.ref p) (upd H p (.tup (List.replicate k.toNat xs).flatten))
end
section
variable {prog : Program} {w : World} {A : Around} {E : Value → Shared → Prop} {s : Shared}
theorem getItem_tuple_all {t sl : Addr} {items : Array Value} {vl vu : Value} {lo hi : Option Int} {Q : Value → Shared → Prop} (ht : IsTup s.heap t items) (hs : s.heap.IsSliceOf sl vl vu .none) (pl : IsPart vl lo) (pu : IsPart vu hi)
    (hw : HT.sIx items.size 0 lo = 0 ∧ HT.sIx items.size items.size hi = items.size)
    (h : Q (.ref t) s)
    (hsz : items.size ≤ sizeLine) : wpAny (model prog w) A (getItem (.ref t) (.ref sl)) Q E s := by
  obtain ⟨os, hos, hcs, hds⟩ := id hs
  have hTs : s.TypeIs (.ref sl) "slice" := ⟨os, hos, hcs⟩
  unfold getItem
  try with_reducible refine wpAny_holding ?_
  first | refine wpAny_bind (wpAny_pure ?_) | skip
  refine wpAny_bind (wpAny_sequenceKey ht.typeIs (by decide) ?_)
  refine wpAny_bind (wpAny_callSpecial?_slot (name := Str.ofString "__getitem__") ht.typeIs PyProof.Rows.slot_tuple_getitem
    (wpAny_call_entry PyProof.Rows.slot_tuple_getitem ht.typeIs entry_tuple_getitem ?_ (args_tuple_getitem _ _)))
  show wpAny _ _ (Builtin.Tuple.tupleItemsOf (.ref t) >>= _) _ _ s
  refine wpAny_bind (tupleItemsOf_ ht ?_)
  refine wpAny_bind (wpAny_typeOf hTs ?_)
  rw [if_pos (by decide)]
  refine wpAny_bind (HT.sliceApplied_gen hs pl pu ?_)
  rw [hw.1, hw.2]
  show wpAny _ _ (if (((0 : Nat) : Int) == 0 && (1 : Int) == 1 && (items.size - 0) == items.size) = true then _ else _) _ _ s
  rw [if_pos (by simp)]
  unfold Builtin.Tuple.tupleIsExact
  refine wpAny_bind (wpAny_bind (wpAny_typeOf ht.typeIs (wpAny_pure ?_)))
  rw [if_pos (by decide)]
  exact wpAny_bind (wpAny_rule (wpAny_pure ⟨_, rfl, wpAny_pure h⟩))
end
section
variable {X : Cx}
def rSlTW (K : PySem.W.Frag) : V → Option Int → Option Int → Hp → VK → Prop := fun x lo hi H Q => ∃ a xs, x = .ref a ∧ SqT K H a xs ∧ (HT.sIx xs.length 0 lo = 0 ∧ HT.sIx xs.length xs.length hi = xs.length) ∧ Q (.ref a) H
theorem sl_tupW : SlR X (rSlTW X.K) := by
  intro pins s σ H x v vl vu lo hi sl Q I rx hs pl pu h
  obtain ⟨a, xs, rfl, hx, hw, q⟩ := h
  cases rx
  obtain ⟨its, r, ht, hz⟩ := I.tuple hx
  have hlen : its.toArray.size = xs.length := by rw [List.size_toArray]; exact r.length.symm
  refine ⟨"tuple", _, PyProof.Rows.slot_tuple_getitem.lookup, ht.typeIs, ?_⟩
  exact getItem_tuple_all ht hs pl pu (by rw [hlen]; exact hw) ⟨.ref a, H, I, rfl, q⟩ (by rw [hlen]; exact hz)
theorem op_catTT : OpR X (binaryOp .Add) (fun x y H Q => ∃ a b xs ys, x = .ref a ∧ y = .ref b ∧ H a = some (.tup xs) ∧ H b = some (.tup ys) ∧ xs.length + ys.length ≤ sizeLine ∧ ∀ p H', Same H H' → H' p = some (.tup (xs ++ ys)) → Q (.ref p) H') := by
  intro pins s σ H x y v u Q I rx ry h
  obtain ⟨a, b, xs, ys, rfl, rfl, ha, hb, hz, q⟩ := h
  by_cases hx : xs = []
  · subst hx
    exact op_catT0 pins s σ H _ _ v u Q I rx ry ⟨a, b, ys, rfl, rfl, .of ha, .of hb, q b H (Same.refl H) hb⟩
  · refine op_catT pins s σ H _ _ v u Q I rx ry ⟨a, b, xs, ys, rfl, rfl, .of ha, .of hb, hx, hz, fun hy => q a H (Same.refl H) (by rw [hy, List.append_nil]; exact ha), fun _ p hp => q p _ (Same.upd1 hp) upd_same⟩
theorem cutV_all {xs : List V} {lo hi : Option Int} (h : HT.sIx xs.length 0 lo = 0 ∧ HT.sIx xs.length xs.length hi = xs.length) : cutV xs lo hi = xs := by
  unfold cutV
  rw [h.1, h.2, List.drop_zero, Nat.sub_zero, List.take_length]
theorem sl_tupA : SlR X (fun x lo hi H Q => ∃ a xs, x = .ref a ∧ H a = some (.tup xs) ∧ ∀ p H', Same H H' → H' p = some (.tup (cutV xs lo hi)) → Q (.ref p) H') := by
  intro pins s σ H x v vl vu lo hi sl Q I rx hs pl pu h
  obtain ⟨a, xs, rfl, ha, q⟩ := h
  by_cases hw : HT.sIx xs.length 0 lo = 0 ∧ HT.sIx xs.length xs.length hi = xs.length
  · exact sl_tupW pins s σ H _ v vl vu lo hi sl Q I rx hs pl pu ⟨a, xs, rfl, .of ha, hw, q a H (Same.refl H) (by rw [cutV_all hw]; exact ha)⟩
  · exact sl_tup pins s σ H _ v vl vu lo hi sl Q I rx hs pl pu ⟨a, xs, rfl, .of ha, hw, fun p hp => q p _ (Same.upd1 hp) upd_same⟩
end
end L2
end
section
set_option Elab.async false
set_option linter.all false
set_option maxRecDepth 100000
set_option maxHeartbeats 1000000
namespace L2
open PySem PySem.Spec PyProof.Rows
section
variable {X : Cx}
end
end L2
end
section
set_option Elab.async false
set_option linter.all false
set_option maxRecDepth 100000
set_option maxHeartbeats 1000000
namespace L2
open PySem PySem.Spec PyProof.Rows
def CDivB (i j : Int) : Prop := 0 < j ∧ j < 1606938044258990275541962092341162602522202993782792835301376
def Rdy (P : Program) (w : World) (K : PySem.W.Frag) (mg : Str → Option Value) (base : Heap) (A : Around) (x : V) (sp : Sp) : Prop := ∃ (k : Nat) (f : Addr) (fd : FuncData) (ps : List Str), x = .ref f ∧ FnOk P w K mg base (CXr P w) k f fd ps sp ∧ Room k A ∧ PySem.W.keepIn K (.ref f) = true ∧ Binds K fd ps []
def tCallV (R : V → Sp → Prop) (E : XK) (tf : TE) (t : TA) : TE := fun σ H Q => tf σ H fun x H1 => ∃ sp, R x sp ∧ t σ H1 fun vs H2 => sp (vs ++ []) H2 Q E
section
variable {X : Cx} {E : XK} {fe e : Expr} {es : List Expr} {tf : TE} {t : TA} {pos : Pos}
end
end L2
end
section
set_option Elab.async false
set_option linter.all false
set_option maxRecDepth 100000
set_option maxHeartbeats 1000000
namespace L2
open PySem PySem.Spec PyProof.Rows
def Itd (a : Addr) (o : Obj) (kvs : List (Key × V)) : It where
  go := fun i H => H a = some (.frz o (.dK kvs)) ∧ i < kvs.length
  yld := fun i H x H' => H' = H ∧ (kvs.map fun p => kV p.1)[i]? = some x
  stop := fun i H => H a = some (.frz o (.dK kvs)) ∧ kvs.length ≤ i
section
variable {X : Cx} {pins : List (Addr × Obj)} {σ : St} {H : Hp} {s : Shared} {tg : Expr}
def iDict (tl : TE) : TI := fun σ H R => tl σ H fun x H1 => ∃ a kvs, x = .ref a ∧ H1 a = some (.dK kvs) ∧ ∀ o, R (Itd a o kvs) (upd H1 a (.frz o (.dK kvs)))
def tThaw (t : TE) : TE := fun σ H Q => ∃ a kvs, H a = some (.dK kvs) ∧ t σ H fun y H' => ∃ o, H' a = some (.frz o (.dK kvs)) ∧ Q y (upd H' a (.dK kvs))
end
end L2
end
section
set_option Elab.async false
set_option linter.all false
set_option maxRecDepth 100000
set_option maxHeartbeats 1000000
namespace L2
open PySem PySem.Spec PyProof.Rows
def Iti (a : Addr) (o : Obj) (kvs : List (Key × V)) : It where
  go := fun i H => H a = some (.frz o (.dK kvs)) ∧ i < kvs.length
  yld := fun i H x H' => ∃ T q, x = .ref T ∧ H T = none ∧ H' = upd H T (.tup [kV q.1, q.2]) ∧ kvs[i]? = some q
  stop := fun i H => H a = some (.frz o (.dK kvs)) ∧ kvs.length ≤ i
section
variable {X : Cx} {elts : List Expr} {kk : Nat} {tpos : Pos} {tg : Expr}
def iItems (tl : TE) : TI := fun σ H R => tl σ H fun x H1 => ∃ p a kvs, x = .ref p ∧ H1 p = some (VW p a) ∧ H1 a = some (.dK kvs) ∧ ∀ o, R (Iti a o kvs) (upd H1 a (.frz o (.dK kvs)))
def Itv (a : Addr) (o : Obj) (kvs : List (Key × V)) : It where
  go := fun i H => H a = some (.frz o (.dK kvs)) ∧ i < kvs.length
  yld := fun i H x H' => H' = H ∧ (kvs.map fun p => p.2)[i]? = some x
  stop := fun i H => H a = some (.frz o (.dK kvs)) ∧ kvs.length ≤ i
def iVals (tl : TE) : TI := fun σ H R => tl σ H fun x H1 => ∃ p a kvs, x = .ref p ∧ H1 p = some (VLS p a) ∧ H1 a = some (.dK kvs) ∧ ∀ o, R (Itv a o kvs) (upd H1 a (.frz o (.dK kvs)))
def sThaw (t : TS) : TS := fun D σ H => ∃ a kvs, H a = some (.dK kvs) ∧ t { D with nx := fun σ' H' => ∃ o, H' a = some (.frz o (.dK kvs)) ∧ D.nx σ' (upd H' a (.dK kvs)) } σ H
end
end L2
end
section
set_option Elab.async false
set_option linter.all false
set_option maxRecDepth 100000
set_option maxHeartbeats 1000000
namespace L2
open PySem PySem.Spec PyProof.Rows
section
variable {prog : Program} {w : World} {A : Around} {E : Value → Shared → Prop} {s : Shared}
theorem nextOf_tup_item {it t : Addr} {i : Nat} {items} {x : Value} {Q : Value → Shared → Prop} (hit : s.heap.IsTupleIter it t i) (ht : s.heap.IsTuple t items) (hx : items[i]? = some x)
    (hQ : ∀ h', h'.IsTupleIter it t (i + 1) → Heap.SameBut it s.heap h' → Q x { s with heap := h' }) : wpAny (model prog w) A (Builtin.SmallTypes.nextOf (.ref it)) Q E s := by
  obtain ⟨o, ho, hc, hd⟩ := id hit
  obtain ⟨ol, hol, _, nl, hdl⟩ := ht
  unfold Builtin.SmallTypes.nextOf
  refine wpAny_bind (wpAny_callSpecial?_slot (name := Str.ofString "__next__") hit.typeIs F.slot_tuple_iterator_next (wpAny_call_entry F.slot_tuple_iterator_next hit.typeIs F.entry_tuple_iterator_next ?_ (F.args_tuple_iterator_next_1 _)))
  show wpAny _ _ (field (.ref it) 0 >>= _) _ _ s
  refine wpAny_bind (wpAny_field ho hd (x := .ref t) rfl ?_)
  show wpAny _ _ (if (Value.ref t == Value.none) = true then _ else _) _ _ s
  rw [if_neg (show ¬ ((Value.ref t == Value.none) = true) from Bool.false_ne_true)]
  show wpAny _ _ (field (.ref it) 1 >>= _) _ _ s
  refine wpAny_bind (wpAny_field ho hd (x := .int i 0) rfl ?_)
  show wpAny _ _ (seqItems? (.ref t) >>= _) _ _ s
  refine wpAny_bind (wpAny_seqItems hol hdl ?_)
  simp only [Int.toNat_natCast, hx]
  refine wpAny_bind (wpAny_setField ho hd (by simp) (wpAny_pure ⟨x, rfl, wpAny_pure (hQ _ ?_ (Heap.SameBut.update ..))⟩))
  exact ⟨_, Heap.get?_update_self _ ho (Obj.isFreed_of_fields (Obj.data_mapFields hd _)), (Obj.cls_mapFields ..).trans hc, by rw [Obj.data_mapFields hd]; simp [rawInt]⟩
theorem nextOf_tup_end {it t : Addr} {i : Nat} {items} {Q : Value → Shared → Prop} (hh : A.handled = none) (hit : s.heap.IsTupleIter it t i) (ht : s.heap.IsTuple t items) (hx : items[i]? = none)
    (hE : ∀ h' e, Heap.ExtBut it s.heap h' → (∃ o, h'.get? e = some o ∧ o.cls = .type "StopIteration") → E (.ref e) { s with heap := h' }) : wpAny (model prog w) A (Builtin.SmallTypes.nextOf (.ref it)) Q E s := by
  obtain ⟨o, ho, hc, hd⟩ := id hit
  obtain ⟨ol, hol, _, nl, hdl⟩ := ht
  unfold Builtin.SmallTypes.nextOf
  refine wpAny_bind (wpAny_callSpecial?_slot (name := Str.ofString "__next__") hit.typeIs F.slot_tuple_iterator_next (wpAny_call_entry F.slot_tuple_iterator_next hit.typeIs F.entry_tuple_iterator_next ?_ (F.args_tuple_iterator_next_1 _)))
  show wpAny _ _ (field (.ref it) 0 >>= _) _ _ s
  refine wpAny_bind (wpAny_field ho hd (x := .ref t) rfl ?_)
  show wpAny _ _ (if (Value.ref t == Value.none) = true then _ else _) _ _ s
  rw [if_neg (show ¬ ((Value.ref t == Value.none) = true) from Bool.false_ne_true)]
  show wpAny _ _ (field (.ref it) 1 >>= _) _ _ s
  refine wpAny_bind (wpAny_field ho hd (x := .int i 0) rfl ?_)
  show wpAny _ _ (seqItems? (.ref t) >>= _) _ _ s
  refine wpAny_bind (wpAny_seqItems hol hdl ?_)
  simp only [Int.toNat_natCast, hx]
  refine wpAny_bind (wpAny_rule (wpAny_bind (wpAny_setField ho hd (by simp) ?_)))
  show wpAny _ _ (newExc (.type "StopIteration") [] >>= _) _ _ _
  refine wpAny_bind ?_
  simp only [newExc, newTuple]
  refine wpAny_bind (wpAny_newObj_type ?_ (by size_fits))
  refine wpAny_bind (m := firstArgMember _ _) (wpAny_of_eq (a := Value.none) (by first | rfl | (simp only [firstArgMember]; rfl)) ?_)
  refine wpAny_newObj_type ?_ (by size_fits)
  simp only [raiseNew]
  refine wpAny_bind (wpAny_handled ?_)
  first | rw [show A.in1.handled = none from hh] | rw [hh]
  refine wpAny_bind (wpAny_pure (wpAny_throw ?_))
  exact hE _ _ (((Heap.SameBut.update ..).extBut.push _).push _) ⟨_, Heap.get?_push_size _ rfl, rfl⟩
end
theorem drawsTup {prog : Program} {w : World} {A : Around} (hh : A.handled = none) (it l : Addr) (hne : l ≠ it) (items : Array Value) :
    Draws prog w A it [it, l] items.size (fun i v => items[i]? = some v) (fun i h => h.IsTupleIter it l i ∧ h.IsTuple l items) where
  live := fun _ _ st => let ⟨o, ho, _⟩ := st.1; ⟨o, ho⟩
  frame := fun _ _ _ st hk => ⟨st.1.at fun o e => hk it (by simp) o e, let ⟨o, e, r⟩ := st.2; ⟨o, hk l (by simp) o e, r⟩⟩
  item := fun i s Q E hi st hQ => nextOf_tup_item st.1 st.2 (x := items[i]) (by simp [hi]) fun h' hit' hs' => hQ _ h' s.toks (by simp [hi]) ⟨hit', st.2.extBut hs'.extBut hne⟩ hs'
  done := fun s Q E st hE => nextOf_tup_end hh st.1 st.2 (by simp) hE
structure Side (z TI TO i1 i2 : Addr) (fp1 fp2 : List Addr) : Prop where
  TIz : TI ≠ z
  TOz : TO ≠ z
  i1z : i1 ≠ z
  i2z : i2 ≠ z
  TITO : TI ≠ TO
  TIi1 : TI ≠ i1
  TIi2 : TI ≠ i2
  TOi1 : TO ≠ i1
  TOi2 : TO ≠ i2
  i12 : i1 ≠ i2
  f1 : ∀ c ∈ fp1, c ≠ z ∧ c ≠ TO ∧ c ≠ i2
  f2 : ∀ c ∈ fp2, c ≠ z ∧ c ≠ TO ∧ c ≠ i1
section
variable {prog : Program} {w : World} {A : Around} {E : Value → Shared → Prop} {s : Shared} {z TI TO i1 i2 : Addr} {fp1 fp2 : List Addr} {n1 n2 : Nat} {P1 P2 : Nat → Value → Prop} {T1 T2 : Nat → Heap → Prop} {k : Nat} {a b : Value}
theorem zipD_item {Q : Value → Shared → Prop} (D1 : Draws prog w A i1 fp1 n1 P1 T1) (D2 : Draws prog w A i2 fp2 n2 P2 T2) (D : Side z TI TO i1 i2 fp1 fp2)
    (hz : IsZip s.heap z TI TO .none) (hTI : IsPair s.heap TI (.ref i1) (.ref i2)) (hTO : IsPair s.heap TO a b) (t1 : T1 k s.heap) (t2 : T2 k s.heap) (l1 : k < n1) (l2 : k < n2)
    (hQ : ∀ x y h' tk, P1 k x → P2 k y → IsZip h' z TI TO (rawInt s.heap.objs.size) → IsPair h' TO x y → T1 (k + 1) h' → T2 (k + 1) h' → IsPair h' s.heap.objs.size x y → h'.objs.size = s.heap.objs.size + 1 →
      (∀ c o, c ≠ z → c ≠ TO → c ≠ i1 → c ≠ i2 → s.heap.get? c = some o → h'.get? c = some o) → Q (.ref s.heap.objs.size) { s with heap := h', toks := tk }) :
    wpAny (model prog w) A (Builtin.«zip.__next__» ⟨[.ref z], []⟩) (fun fin s' => ∃ v, fin = .done (.ret v) ∧ Q v s') E s := by
  show wpAny _ _ (field (.ref z) 2 >>= _) _ _ _
  refine wpAny_bind (wpAny_field hz rfl (x := .bool false) rfl ?_)
  show wpAny _ _ (field (.ref z) 3 >>= _) _ _ _
  refine wpAny_bind (wpAny_field hz rfl (x := .ref TI) rfl ?_)
  refine wpAny_bind (wpAny_seqItems hTI rfl ?_)
  show wpAny _ _ (Builtin.SmallTypes.ownedTupleIsFree (.ref z) >>= _) _ _ _
  refine wpAny_bind ?_
  unfold Builtin.SmallTypes.ownedTupleIsFree
  refine wpAny_bind (wpAny_field hz rfl (x := .none) rfl (wpAny_pure ?_))
  simp only [if_true]
  refine wpAny_bind (wpAny_rule ?_)
  refine wpAny_bind (wpAny_field hz rfl (x := .ref TO) rfl ?_)
  refine wpAny_bind (wpAny_setField_rec hz (by simp) fun h₁ hz₁ hs₁ => ?_)
  replace hz₁ : IsZip h₁ z TI TO .ellipsis := hz₁
  refine wpAny_bind ?_
  simp only [List.zipIdx_cons, List.zipIdx_nil, List.forIn_cons, List.forIn_nil]
  refine wpAny_bind (wpAny_bind (wpAny_onRaise ?_))
  show wpAny _ _ (Builtin.SmallTypes.nextOf (.ref i1) >>= _) _ _ _
  have t1₁ : T1 k h₁ := D1.frame _ _ _ t1 fun c hc o e => hs₁.extBut _ _ (D.f1 c hc).1 e
  have t2₁ : T2 k h₁ := D2.frame _ _ _ t2 fun c hc o e => hs₁.extBut _ _ (D.f2 c hc).1 e
  refine wpAny_bind (D1.item k _ _ _ l1 t1₁ fun x h₂ tk2 px t1₂ hs₂ => wpAny_pure ?_)
  have hTO₂ : IsPair h₂ TO a b := hs₂.extBut _ _ D.TOi1 (hs₁.extBut _ _ D.TOz hTO)
  refine wpAny_bind (wpAny_seqItems hTO₂ rfl ?_)
  refine wpAny_bind (wpAny_updateSeq_pair hTO₂ fun h₃ hTO₃ hs₃ => ?_)
  replace hTO₃ : IsPair h₃ TO x b := hTO₃
  refine wpAny_bind (wpAny_letGo (wpAny_pure ?_))
  refine wpAny_bind (wpAny_bind (wpAny_onRaise ?_))
  show wpAny _ _ (Builtin.SmallTypes.nextOf (.ref i2) >>= _) _ _ _
  have t2₃ : T2 k h₃ := D2.frame _ _ _ t2₁ fun c hc o e => hs₃.extBut _ _ (D.f2 c hc).2.1 (hs₂.extBut _ _ (D.f2 c hc).2.2 e)
  refine wpAny_bind (D2.item k _ _ _ l2 t2₃ fun y h₄ tk4 py t2₄ hs₄ => wpAny_pure ?_)
  have hTO₄ : IsPair h₄ TO x b := hs₄.extBut _ _ D.TOi2 hTO₃
  refine wpAny_bind (wpAny_seqItems hTO₄ rfl ?_)
  refine wpAny_bind (wpAny_updateSeq_pair hTO₄ fun h₅ hTO₅ hs₅ => ?_)
  replace hTO₅ : IsPair h₅ TO x y := hTO₅
  refine wpAny_bind (wpAny_letGo (wpAny_pure (wpAny_pure ?_)))
  refine wpAny_bind (wpAny_seqItems hTO₅ rfl ?_)
  refine wpAny_bind (wpAny_newTuple ?_)
  have hsz : h₅.objs.size = s.heap.objs.size := by rw [hs₅.1, hs₄.1, hs₃.1, hs₂.1, hs₁.1]
  have hz₅ : IsZip h₅ z TI TO .ellipsis := hs₅.extBut _ _ D.TOz.symm (hs₄.extBut _ _ D.i2z.symm (hs₃.extBut _ _ D.TOz.symm (hs₂.extBut _ _ D.i1z.symm hz₁)))
  have hk₅ : ∀ c o, c ≠ z → c ≠ TO → c ≠ i1 → c ≠ i2 → s.heap.get? c = some o → h₅.get? c = some o := fun c o c1 c2 c3 c4 e =>
    hs₅.extBut _ _ c2 (hs₄.extBut _ _ c4 (hs₃.extBut _ _ c2 (hs₂.extBut _ _ c3 (hs₁.extBut _ _ c1 e))))
  have t1₅ : T1 (k + 1) h₅ := D1.frame _ _ _ t1₂ fun c hc o e => hs₅.extBut _ _ (D.f1 c hc).2.1 (hs₄.extBut _ _ (D.f1 c hc).2.2 (hs₃.extBut _ _ (D.f1 c hc).2.1 e))
  have t2₅ : T2 (k + 1) h₅ := D2.frame _ _ _ t2₄ fun c hc o e => hs₅.extBut _ _ (D.f2 c hc).2.1 e
  have hzlt : z < h₅.objs.size := Heap.lt_size hz₅
  show wpAny _ _ (Builtin.SmallTypes.ownedTupleHandOut (.ref z) (.ref h₅.objs.size) >>= _) _ _ _
  refine wpAny_bind ?_
  unfold Builtin.SmallTypes.ownedTupleHandOut
  have hz₆ : IsZip (h₅.push { cls := .type "tuple", data := .seq #[x, y] }) z TI TO .ellipsis := Heap.get?_push_of_some _ hz₅
  refine wpAny_bind (wpAny_setField_rec hz₆ (by simp) fun h₇ hz₇ hs₇ => ?_)
  replace hz₇ : IsZip h₇ z TI TO (rawInt h₅.objs.size) := hz₇
  refine wpAny_setField_rec hz₇ (by simp) fun h₈ hz₈ hs₈ => ?_
  replace hz₈ : IsZip h₈ z TI TO (rawInt h₅.objs.size) := hz₈
  have up : ∀ c o, c ≠ z → h₅.get? c = some o → h₈.get? c = some o := fun c o c1 e => hs₈.extBut _ _ c1 (hs₇.extBut _ _ c1 (Heap.get?_push_of_some _ e))
  have hT₈ : IsPair h₈ h₅.objs.size x y := hs₈.extBut _ _ (Nat.ne_of_gt hzlt) (hs₇.extBut _ _ (Nat.ne_of_gt hzlt) (Heap.get?_push_size _ rfl))
  have hz8 : h₈.objs.size = h₅.objs.size + 1 := by rw [hs₈.1, hs₇.1, Heap.size_push]
  rw [hsz] at hz₈ hT₈ hz8
  refine wpAny_pure ⟨_, rfl, ?_⟩
  show Q (.ref h₅.objs.size) _
  rw [hsz]
  exact hQ x y h₈ _ px py hz₈ (up _ _ D.TOz hTO₅) (D1.frame _ _ _ t1₅ fun c hc o e => up c o (D.f1 c hc).1 e) (D2.frame _ _ _ t2₅ fun c hc o e => up c o (D.f2 c hc).1 e) hT₈ hz8 fun c o c1 c2 c3 c4 e => up c o c1 (hk₅ c o c1 c2 c3 c4 e)
theorem zipD_end {Q : Fin → Shared → Prop} (D1 : Draws prog w A i1 fp1 n1 P1 T1) (D2 : Draws prog w A i2 fp2 n2 P2 T2) (D : Side z TI TO i1 i2 fp1 fp2)
    (hz : IsZip s.heap z TI TO .none) (hTI : IsPair s.heap TI (.ref i1) (.ref i2)) (hTO : IsPair s.heap TO a b) (t1 : T1 n1 s.heap)
    (hE : ∀ h' e, (∀ c o, c ≠ z → c ≠ TO → c ≠ i1 → c ≠ i2 → s.heap.get? c = some o → h'.get? c = some o) → (∃ o, h'.get? e = some o ∧ o.cls = .type "StopIteration") → E (.ref e) { s with heap := h' }) :
    wpAny (model prog w) A (Builtin.«zip.__next__» ⟨[.ref z], []⟩) Q E s := by
  show wpAny _ _ (field (.ref z) 2 >>= _) _ _ _
  refine wpAny_bind (wpAny_field hz rfl (x := .bool false) rfl ?_)
  show wpAny _ _ (field (.ref z) 3 >>= _) _ _ _
  refine wpAny_bind (wpAny_field hz rfl (x := .ref TI) rfl ?_)
  refine wpAny_bind (wpAny_seqItems hTI rfl ?_)
  show wpAny _ _ (Builtin.SmallTypes.ownedTupleIsFree (.ref z) >>= _) _ _ _
  refine wpAny_bind ?_
  unfold Builtin.SmallTypes.ownedTupleIsFree
  refine wpAny_bind (wpAny_field hz rfl (x := .none) rfl (wpAny_pure ?_))
  simp only [if_true]
  refine wpAny_bind (wpAny_rule ?_)
  refine wpAny_bind (wpAny_field hz rfl (x := .ref TO) rfl ?_)
  refine wpAny_bind (wpAny_setField_rec hz (by simp) fun h₁ hz₁ hs₁ => ?_)
  replace hz₁ : IsZip h₁ z TI TO .ellipsis := hz₁
  refine wpAny_bind ?_
  simp only [List.zipIdx_cons, List.zipIdx_nil, List.forIn_cons, List.forIn_nil]
  refine wpAny_bind (wpAny_bind (wpAny_onRaise ?_))
  show wpAny _ _ (Builtin.SmallTypes.nextOf (.ref i1) >>= _) _ _ _
  have t1₁ : T1 n1 h₁ := D1.frame _ _ _ t1 fun c hc o e => hs₁.extBut _ _ (D.f1 c hc).1 e
  refine wpAny_bind (D1.done _ _ _ t1₁ fun h₂ e hs₂ he => ?_)
  obtain ⟨oe, hoe, hce⟩ := he
  have hz₂ : IsZip h₂ z TI TO .ellipsis := hs₂ _ _ D.i1z.symm hz₁
  have hez : e ≠ z := fun x => by subst x; rw [hz₂] at hoe; cases hoe; simp at hce
  refine wpAny_setField_rec hz₂ (by simp) fun h₃ _ hs₃ => hE h₃ e (fun c o c1 _ c3 _ x => hs₃.extBut _ _ c1 (hs₂ _ _ c3 (hs₁.extBut _ _ c1 x))) ⟨oe, hs₃.extBut _ _ hez hoe, hce⟩
theorem zipD_end2 {Q : Fin → Shared → Prop} (D1 : Draws prog w A i1 fp1 n1 P1 T1) (D2 : Draws prog w A i2 fp2 n2 P2 T2) (D : Side z TI TO i1 i2 fp1 fp2)
    (hz : IsZip s.heap z TI TO .none) (hTI : IsPair s.heap TI (.ref i1) (.ref i2)) (hTO : IsPair s.heap TO a b) (t1 : T1 n2 s.heap) (l1 : n2 < n1) (t2 : T2 n2 s.heap)
    (hE : ∀ h' e tk, (∀ c o, c ≠ z → c ≠ TO → c ≠ i1 → c ≠ i2 → s.heap.get? c = some o → h'.get? c = some o) → (∃ o, h'.get? e = some o ∧ o.cls = .type "StopIteration") → E (.ref e) { s with heap := h', toks := tk }) :
    wpAny (model prog w) A (Builtin.«zip.__next__» ⟨[.ref z], []⟩) Q E s := by
  show wpAny _ _ (field (.ref z) 2 >>= _) _ _ _
  refine wpAny_bind (wpAny_field hz rfl (x := .bool false) rfl ?_)
  show wpAny _ _ (field (.ref z) 3 >>= _) _ _ _
  refine wpAny_bind (wpAny_field hz rfl (x := .ref TI) rfl ?_)
  refine wpAny_bind (wpAny_seqItems hTI rfl ?_)
  show wpAny _ _ (Builtin.SmallTypes.ownedTupleIsFree (.ref z) >>= _) _ _ _
  refine wpAny_bind ?_
  unfold Builtin.SmallTypes.ownedTupleIsFree
  refine wpAny_bind (wpAny_field hz rfl (x := .none) rfl (wpAny_pure ?_))
  simp only [if_true]
  refine wpAny_bind (wpAny_rule ?_)
  refine wpAny_bind (wpAny_field hz rfl (x := .ref TO) rfl ?_)
  refine wpAny_bind (wpAny_setField_rec hz (by simp) fun h₁ hz₁ hs₁ => ?_)
  replace hz₁ : IsZip h₁ z TI TO .ellipsis := hz₁
  refine wpAny_bind ?_
  simp only [List.zipIdx_cons, List.zipIdx_nil, List.forIn_cons, List.forIn_nil]
  refine wpAny_bind (wpAny_bind (wpAny_onRaise ?_))
  show wpAny _ _ (Builtin.SmallTypes.nextOf (.ref i1) >>= _) _ _ _
  have t1₁ : T1 n2 h₁ := D1.frame _ _ _ t1 fun c hc o e => hs₁.extBut _ _ (D.f1 c hc).1 e
  have t2₁ : T2 n2 h₁ := D2.frame _ _ _ t2 fun c hc o e => hs₁.extBut _ _ (D.f2 c hc).1 e
  refine wpAny_bind (D1.item n2 _ _ _ l1 t1₁ fun x h₂ tk2 px t1₂ hs₂ => wpAny_pure ?_)
  have hTO₂ : IsPair h₂ TO a b := hs₂.extBut _ _ D.TOi1 (hs₁.extBut _ _ D.TOz hTO)
  refine wpAny_bind (wpAny_seqItems hTO₂ rfl ?_)
  refine wpAny_bind (wpAny_updateSeq_pair hTO₂ fun h₃ hTO₃ hs₃ => ?_)
  refine wpAny_bind (wpAny_letGo (wpAny_pure ?_))
  refine wpAny_bind (wpAny_bind (wpAny_onRaise ?_))
  show wpAny _ _ (Builtin.SmallTypes.nextOf (.ref i2) >>= _) _ _ _
  have t2₃ : T2 n2 h₃ := D2.frame _ _ _ t2₁ fun c hc o e => hs₃.extBut _ _ (D.f2 c hc).2.1 (hs₂.extBut _ _ (D.f2 c hc).2.2 e)
  refine wpAny_bind (D2.done _ _ _ t2₃ fun h₄ e hs₄ he => ?_)
  obtain ⟨oe, hoe, hce⟩ := he
  have hz₄ : IsZip h₄ z TI TO .ellipsis := hs₄ _ _ D.i2z.symm (hs₃.extBut _ _ D.TOz.symm (hs₂.extBut _ _ D.i1z.symm hz₁))
  have hez : e ≠ z := fun x => by subst x; rw [hz₄] at hoe; cases hoe; simp at hce
  refine wpAny_setField_rec hz₄ (by simp) fun h₅ _ hs₅ => hE h₅ e _ (fun c o c1 c2 c3 c4 x => hs₅.extBut _ _ c1 (hs₄ _ _ c4 (hs₃.extBut _ _ c2 (hs₂.extBut _ _ c3 (hs₁.extBut _ _ c1 x))))) ⟨oe, hs₅.extBut _ _ hez hoe, hce⟩
end
section
variable {prog : Program} {w : World} {A : Around} {E : Value → Shared → Prop} {s : Shared} {z TI TO i1 i2 : Addr} {fp1 fp2 : List Addr} {n1 n2 : Nat} {P1 P2 : Nat → Value → Prop} {T1 T2 : Nat → Heap → Prop} {k : Nat} {a b : Value}
theorem pyNext_zipD_item {Q : Option Value → Shared → Prop} (D1 : Draws prog w A.in1 i1 fp1 n1 P1 T1) (D2 : Draws prog w A.in1 i2 fp2 n2 P2 T2) (D : Side z TI TO i1 i2 fp1 fp2)
    (hz : IsZip s.heap z TI TO .none) (hTI : IsPair s.heap TI (.ref i1) (.ref i2)) (hTO : IsPair s.heap TO a b) (t1 : T1 k s.heap) (t2 : T2 k s.heap) (l1 : k < n1) (l2 : k < n2)
    (hQ : ∀ x y h' tk, P1 k x → P2 k y → IsZip h' z TI TO (rawInt s.heap.objs.size) → IsPair h' TO x y → T1 (k + 1) h' → T2 (k + 1) h' → IsPair h' s.heap.objs.size x y → h'.objs.size = s.heap.objs.size + 1 →
      (∀ c o, c ≠ z → c ≠ TO → c ≠ i1 → c ≠ i2 → s.heap.get? c = some o → h'.get? c = some o) → Q (some (.ref s.heap.objs.size)) { s with heap := h', toks := tk }) : wpAny (model prog w) A (pyNext (.ref z)) Q E s := by
  have hT : s.TypeIs (.ref z) "zip" := ⟨_, hz, rfl⟩
  unfold pyNext
  exact wpAny_bind (wpAny_attempt (wpAny_callSpecial?_slot (name := Str.ofString "__next__") hT F.slot_zip_next
    (wpAny_call_entry F.slot_zip_next hT F.entry_zip_next (zipD_item D1 D2 D hz hTI hTO t1 t2 l1 l2 fun x y h' tk p1 p2 a1 a2 a3 a4 a5 a6 a7 => wpAny_pure (hQ x y h' tk p1 p2 a1 a2 a3 a4 a5 a6 a7)) (F.args_zip_next_1 _))))
theorem pyNext_zipD_end {Q : Option Value → Shared → Prop} (D1 : Draws prog w A.in1 i1 fp1 n1 P1 T1) (D2 : Draws prog w A.in1 i2 fp2 n2 P2 T2) (D : Side z TI TO i1 i2 fp1 fp2)
    (hz : IsZip s.heap z TI TO .none) (hTI : IsPair s.heap TI (.ref i1) (.ref i2)) (hTO : IsPair s.heap TO a b) (t1 : T1 k s.heap) (t2 : T2 k s.heap) (hk : k = n1 ∨ k < n1 ∧ k = n2)
    (hQ : ∀ h' tk, (∀ c o, c ≠ z → c ≠ TO → c ≠ i1 → c ≠ i2 → s.heap.get? c = some o → h'.get? c = some o) → Q none { s with heap := h', toks := tk }) : wpAny (model prog w) A (pyNext (.ref z)) Q E s := by
  have hT : s.TypeIs (.ref z) "zip" := ⟨_, hz, rfl⟩
  unfold pyNext
  rcases hk with rfl | ⟨h1, rfl⟩
  · refine wpAny_bind (wpAny_attempt (wpAny_callSpecial?_slot (name := Str.ofString "__next__") hT F.slot_zip_next
      (wpAny_call_entry F.slot_zip_next hT F.entry_zip_next (zipD_end D1 D2 D hz hTI hTO t1 fun h' e hk he => ?_) (F.args_zip_next_1 _))))
    obtain ⟨o, ho, hc⟩ := he
    refine wpAny_bind (wpAny_isInstance (T := "StopIteration") (b := true) ⟨o, ho, hc⟩ isSubtype_stop ?_)
    exact wpAny_pure (hQ _ s.toks hk)
  · refine wpAny_bind (wpAny_attempt (wpAny_callSpecial?_slot (name := Str.ofString "__next__") hT F.slot_zip_next
      (wpAny_call_entry F.slot_zip_next hT F.entry_zip_next (zipD_end2 D1 D2 D hz hTI hTO t1 h1 t2 fun h' e tk hk he => ?_) (F.args_zip_next_1 _))))
    obtain ⟨o, ho, hc⟩ := he
    refine wpAny_bind (wpAny_isInstance (T := "StopIteration") (b := true) ⟨o, ho, hc⟩ isSubtype_stop ?_)
    exact wpAny_pure (hQ _ tk hk)
end
section
variable {prog : Program} {w : World} {A : Around} {E : Value → Shared → Prop} {s : Shared}
end
theorem Inv.turnedF {X : Cx} {pins : List (Addr × Obj)} {σ : St} {H : Hp} {s : Shared} {fp : List Addr} {h' : Heap} {t' : Nat} (I : Inv X pins σ H s) (k : ∀ b u, b ∉ fp → s.heap.get? b = some u → h'.get? b = some u) (hf : ∀ b ∈ fp, FpOk X pins H b) : Inv X pins σ H { s with heap := h', toks := t' } := by
  have nit : ∀ b u, H b = some u → b ∉ fp := fun b u e z => by rw [(hf b z).1] at e; cases e
  refine I.step (g' := s.gens) (d' := s.drawn) (ch := fp) (fun b hb => ?_) (fun b o _ _ hc e _ => k b o hc e) (fun b o _ _ hc e _ => ⟨o.slots, k b o hc e⟩) (fun _ _ _ _ n => n)
    (fun b o hc e => ⟨o, k b o hc e⟩) (fun _ _ e => e) (fun _ _ _ e => e) (fun b ps e => ⟨#[], by rw [e]; simp⟩) (fun m hm => ?_) (fun b u e => ?_) I.bare
  · obtain ⟨f0, f1, f2, f3, f4, f5⟩ := hf b hb
    exact ⟨f3, f1, f4, f5⟩
  · obtain ⟨o, es, ep, ho, r⟩ := hm
    exact ⟨o, es, ep, k _ o (fun z => (hf _ z).2.1 rfl) ho, r⟩
  · refine (I.hok b u e).stay (fun c v hc q => k c v ?_ q) (fun c q => q) fun c xs q => q
    rcases hc with z | z
    · rw [z]; exact nit b u e
    · exact nit c _ z
def SqB (tp : Bool) (K : PySem.W.Frag) (H : Hp) (b : Addr) (ys : List V) : Prop := if tp = true then SqT K H b ys else SqL K H b ys
def ItB (tp : Bool) (h : Heap) (it b : Addr) (i : Nat) : Prop := if tp = true then h.IsTupleIter it b i else h.IsListIter it b i
def Itz (K : PySem.W.Frag) (tp : Bool) (a b : Addr) : It :=
  ⟨fun i H => ∃ xs ys x y, SqL K H a xs ∧ SqB tp K H b ys ∧ xs[i]? = some x ∧ ys[i]? = some y,
   fun i H x H' => ∃ T x1 y1, x = .ref T ∧ H T = none ∧ H' = upd H T (.tup [x1, y1]) ∧ (∀ xs, SqL K H a xs → xs[i]? = some x1) ∧ (∀ ys, SqB tp K H b ys → ys[i]? = some y1),
   fun i H => ∃ xs ys, SqL K H a xs ∧ SqB tp K H b ys ∧ (i = xs.length ∨ i < xs.length ∧ i = ys.length)⟩
theorem ad_ne {n i j : Nat} (h : i ≠ j) : n + i ≠ n + j := by omega
theorem ad_lt {a n : Nat} (i : Nat) (h : a < n) : a ≠ n + i := by omega
theorem side_new {n a b : Nat} (ha : a < n) (hb : b < n) : Side (n + 4) (n + 2) (n + 3) n (n + 1) [n, a] [n + 1, b] where
  TIz := ad_ne (by decide)
  TOz := ad_ne (by decide)
  i1z := ad_ne (n := n) (i := 0) (by decide)
  i2z := ad_ne (by decide)
  TITO := ad_ne (by decide)
  TIi1 := ad_ne (n := n) (j := 0) (by decide)
  TIi2 := ad_ne (by decide)
  TOi1 := ad_ne (n := n) (j := 0) (by decide)
  TOi2 := ad_ne (by decide)
  i12 := ad_ne (n := n) (i := 0) (by decide)
  f1 := fun c hc => by
    rcases List.mem_cons.mp hc with z | z
    · subst z; exact ⟨ad_ne (i := 0) (by decide), ad_ne (i := 0) (by decide), ad_ne (i := 0) (by decide)⟩
    · have z' : c = a := by simpa using z
      subst z'; exact ⟨ad_lt 4 ha, ad_lt 3 ha, ad_lt 1 ha⟩
  f2 := fun c hc => by
    rcases List.mem_cons.mp hc with z | z
    · subst z; exact ⟨ad_ne (by decide), ad_ne (by decide), ad_ne (j := 0) (by decide)⟩
    · have z' : c = b := by simpa using z
      subst z'; exact ⟨ad_lt 4 hb, ad_lt 3 hb, ad_lt 0 hb⟩
theorem draws2 {X : Cx} {pins : List (Addr × Obj)} {σ : St} {H : Hp} {s : Shared} (I : Inv X pins σ H s) (hc : X.calm = true) {tp : Bool} {b it : Addr} {ys : List V} (hq : SqB tp X.K H b ys) (hne : b ≠ it) :
    ∃ (its : List Value) (T2 : Nat → Heap → Prop), Vals ys its ∧ Draws X.prog X.w X.A.in1 it [it, b] its.length (fun i v => its[i]? = some v) T2 ∧ (∀ i, ItB tp s.heap it b i → T2 i s.heap) ∧ ∀ i h, T2 i h → ItB tp h it b i := by
  cases tp with
  | true =>
    obtain ⟨its, rv, p, hz⟩ := I.tuple (show SqT X.K H b ys from hq)
    have D := drawsTup (prog := X.prog) (w := X.w) (A := X.A.in1) (show X.A.in1.handled = none from I.ok.hd hc) it b hne its.toArray
    refine ⟨its, fun i h => h.IsTupleIter it b i ∧ h.IsTuple b its.toArray, rv, ?_, fun i h => ⟨h, (show s.heap.IsTuple b its.toArray from p)⟩, fun i h t => t.1⟩
    have e : its.toArray.size = its.length := List.size_toArray
    rw [e] at D
    exact ⟨D.live, D.frame, fun i s Q E hi st hQ => D.item i s Q E hi st fun x h' tk hp => hQ x h' tk (by simpa using hp), D.done⟩
  | false =>
    obtain ⟨its, rv, p, hz⟩ := I.list (show SqL X.K H b ys from hq)
    have D := Draws.list (prog := X.prog) (w := X.w) (A := X.A.in1) (show X.A.in1.handled = none from I.ok.hd hc) it b hne its.toArray
    refine ⟨its, fun i h => h.IsListIter it b i ∧ h.IsList b its.toArray, rv, ?_, fun i h => ⟨h, p.isList⟩, fun i h t => t.1⟩
    have e : its.toArray.size = its.length := List.size_toArray
    rw [e] at D
    exact ⟨D.live, D.frame, fun i s Q E hi st hQ => D.item i s Q E hi st fun x h' tk hp => hQ x h' tk (by simpa using hp), D.done⟩
theorem SqB.inj {X : Cx} {pins : List (Addr × Obj)} {σ : St} {H : Hp} {s : Shared} (I : Inv X pins σ H s) {tp : Bool} {b : Addr} {ys zs : List V} (h1 : SqB tp X.K H b ys) (h2 : SqB tp X.K H b zs) : ys = zs := by
  cases tp with
  | true => exact I.tuple_inj (show SqT X.K H b ys from h1) (show SqT X.K H b zs from h2)
  | false => exact I.list_inj (show SqL X.K H b ys from h1) (show SqL X.K H b zs from h2)
theorem ItB.keep {tp : Bool} {h h' : Heap} {it b : Addr} {i : Nat} (x : ItB tp h it b i) (e : ∀ o, h.get? it = some o → h'.get? it = some o) : ItB tp h' it b i := by
  cases tp with
  | true => exact (show h.IsTupleIter it b i from x).at e
  | false => exact (show h.IsListIter it b i from x).at e
theorem ItB.obj {tp : Bool} {h : Heap} {it b : Addr} {i : Nat} (x : ItB tp h it b i) : ∃ o, h.get? it = some o ∧ ∀ v, o.data ≠ .cell v := by
  cases tp with
  | true => obtain ⟨o, e, c, d⟩ := (show h.IsTupleIter it b i from x); exact ⟨o, e, fun v z => by rw [d] at z; cases z⟩
  | false => obtain ⟨o, e, c, d⟩ := (show h.IsListIter it b i from x); exact ⟨o, e, fun v z => by rw [d] at z; cases z⟩
structure Zn (n a b : Nat) (tp : Bool) (i : Nat) (h : Heap) : Prop where
  zz : IsZip h (n + 4) (n + 2) (n + 3) .none
  ti : IsPair h (n + 2) (.ref n) (.ref (n + 1))
  to : ∃ u v, IsPair h (n + 3) u v
  i1 : h.IsListIter n a i
  i2 : ItB tp h (n + 1) b i
section
variable {X : Cx} {elts : List Expr} {k : Nat} {tpos : Pos}
def iZip (K : PySem.W.Frag) (tp : Bool) (ta : TA) : TI := fun σ H R => ta σ H fun vs H1 => ∃ a b xs ys, vs = [.ref a, .ref b] ∧ SqL K H1 a xs ∧ SqB tp K H1 b ys ∧ R (Itz K tp a b) H1
end
end L2
end
section
set_option Elab.async false
set_option linter.all false
set_option maxRecDepth 100000
set_option maxHeartbeats 1000000
namespace L2
open PySem PySem.Spec PyProof.Rows
open AutoSeq1 (wpAny_loadPart')
section
variable {prog : Program} {w : World} {A : Around} {E : Value → Shared → Prop} {s : Shared}
end
def IteT (K : PySem.W.Frag) (a : Addr) : It :=
  ⟨fun i H => ∃ xs x, SqT K H a xs ∧ xs[i]? = some x, fun i H x H' => ∃ T y, x = .ref T ∧ H T = none ∧ H' = upd H T (.tup [.int i, y]) ∧ ∀ xs, SqT K H a xs → xs[i]? = some y, fun i H => ∃ xs, SqT K H a xs ∧ xs.length = i⟩
section
variable {X : Cx} {elts : List Expr} {k : Nat} {tpos : Pos}
def iEnumT (K : PySem.W.Frag) (ta : TA) : TI := fun σ H R => ta σ H fun vs H1 => ∃ a xs, vs = [.ref a] ∧ SqT K H1 a xs ∧ R (IteT K a) H1
end
theorem comp_pairs {J : It} {xs ys : List V} {len : Nat} {Hk : Hp → Prop} (hgo : ∀ i H, Hk H → i < len → J.go i H) (hst : ∀ i H, Hk H → i = len → J.stop i H) (hyl : ∀ i H x H', Hk H → J.yld i H x H' → ∃ T x1 y1, x = .ref T ∧ H T = none ∧ H' = upd H T (.tup [x1, y1]) ∧ xs[i]? = some x1 ∧ ys[i]? = some y1)
    {caps : List Nat} {n : Nat} {σ : St} {g : TG} {tc : TT} {te : TE} {F : List V → Hp → Prop} {H1 : Hp} (cv : St) (k : Nat) (hn : len < 1000)
    (Pv : Nat → List V → Hp → Prop) (h0 : Pv 0 [] H1) (hk : ∀ i acc H, i ≤ len → Pv i acc H → Hk H ∧ acc.length ≤ i)
    (turn : ∀ (i : Nat) (x y : V) (T : Addr) (acc : List V) (H : Hp) (zs : St) (Nx : List V → St → Hp → Prop), (∀ acc' H' zs, zs.length = k → Pv (i + 1) acc' H' → Nx acc' (cv ++ zs) H') → xs[i]? = some x → ys[i]? = some y → zs.length = k → Pv i acc H → H T = none →
      g (.ref T) (cv ++ zs) (upd H T (.tup [x, y])) fun σ2 H3 => tc σ2 H3 fun b H4 => if b = true then te σ2 H4 fun y H5 => Nx (acc ++ [y]) σ2 H5 else Nx acc σ2 H4)
    (fin : ∀ acc H, Pv len acc H → F acc H) (hcv : capStart caps n σ = cv ++ List.replicate k none := by rfl) :
    ∃ W : Nat → Nat → List V → St → Hp → Prop, (∃ m, W 0 m [] (capStart caps n σ) H1) ∧ ∀ i m acc σ' H', W i m acc σ' H' →
      (J.stop i H' ∧ F acc H') ∨
      (J.go i H' ∧ acc.length < sizeLine ∧ ∀ x H2, J.yld i H' x H2 → g x σ' H2 fun σ2 H3 => tc σ2 H3 fun b H4 => if b = true then te σ2 H4 fun y H5 => ∃ m', m' < m ∧ W (i + 1) m' (acc ++ [y]) σ2 H5 else ∃ m', m' < m ∧ W (i + 1) m' acc σ2 H4) := by
  refine ⟨fun i m acc σ' H' => i ≤ len ∧ m = len - i ∧ (∃ ys, ys.length = k ∧ σ' = cv ++ ys) ∧ Pv i acc H', ⟨len, Nat.zero_le _, rfl, ⟨_, by simp, hcv⟩, h0⟩, ?_⟩
  rintro i m acc σ' H' ⟨hi, rfl, ⟨zs, hy, rfl⟩, pv⟩
  obtain ⟨hH, ha⟩ := hk i acc H' hi pv
  by_cases e : i = len
  · subst e
    exact .inl ⟨hst _ _ hH rfl, fin acc H' pv⟩
  · have hi' : i < len := by omega
    refine .inr ⟨hgo _ _ hH hi', by rw [sizeLine_eq]; omega, fun x H2 hy2 => ?_⟩
    obtain ⟨T, x1, y1, rfl, hT, rfl, e1, e2⟩ := hyl _ _ _ _ hH hy2
    exact turn i x1 y1 T acc H' zs (fun acc' σ2 H5 => ∃ m', m' < len - i ∧ (i + 1 ≤ len ∧ m' = len - (i + 1) ∧ (∃ ys, ys.length = k ∧ σ2 = cv ++ ys) ∧ Pv (i + 1) acc' H5)) (fun acc' H5 zs hz p => ⟨len - (i + 1), by omega, by omega, rfl, ⟨zs, hz, rfl⟩, p⟩) e1 e2 hy pv hT
section
variable {X : Cx}
end
def rInD (K : PySem.W.Frag) : R2 := fun x y H Q => ∃ d ds, Rep K H d x ∧ Rep K H (.list ds) y ∧ SeqAt.shaped d = true ∧ SeqAt.shaped (.list ds) = true ∧ Q (.bl (ds.any fun e => PyData.eqv e d)) H
section
variable {X : Cx}
end
end L2
end
section
set_option Elab.async false
set_option linter.all false
set_option maxRecDepth 100000
set_option maxHeartbeats 1000000
namespace L2
open PySem PySem.Spec PyProof.Rows
open PySem.AutoSeq1 (wpAny_loadPart')
open PySem.MeetsSeq PySem.MeetsSeq2 PySem.MeetsSeq3 PySem.SeqAt
section
variable {prog : Program} {w : World} {A : Around} {E : Value → Shared → Prop} {s : Shared}
end
section
open MyS PySem.W
variable {prog : Program} {w : World} {A : Around} {E : Value → Shared → Prop} {s : Shared}
end
def ltP (a b : List Int) : Bool := if a.length = b.length then HT.lexLt a b else decide (a.length < b.length)
def keyP (ks : List (List Int)) (i j : Nat) : Bool := ltP (ks.getD i []) (ks.getD j [])
def PairL (h : Heap) (a : Addr) (v : Value) (k : List Int) : Prop := ∃ b o t n lb items, v = Value.ref b ∧ b ≠ a ∧ h.get? b = some o ∧ o.cls = .type "tuple" ∧ o.data = .seq #[.int (k.length : Int) t, .ref lb] n ∧ lb ≠ a ∧ h.IsList lb items ∧ IntsAre items.toList k
theorem PairL.keep {h h' : Heap} {a : Addr} {v : Value} {k : List Int} (p : PairL h a v k) (e : ∀ b o, b ≠ a → h.get? b = some o → h'.get? b = some o) : PairL h' a v k := by
  obtain ⟨b, o, t, n, lb, items, h1, h2, h3, h4, h5, h6, h7, h8⟩ := p
  exact ⟨b, o, t, n, lb, items, h1, h2, e b o h2 h3, h4, h5, h6, h7.at fun o q => e lb o h6 q, h8⟩
section
variable {prog : Program} {w : World} {A : Around} {E : Value → Shared → Prop} {s : Shared}
end
section
open MyS PySem.W
variable {prog : Program} {w : World} {A : Around} {E : Value → Shared → Prop} {s : Shared}
end
section
variable {X : Cx}
def rSortedL (K : PySem.W.Frag) : List V → Hp → VK → Prop := fun xs H Q => ∃ p ts ks, xs = [.ref p] ∧ SqL K H p ts ∧ ts.length = ks.length ∧ (∀ (i : Nat) (k : List Int), ks[i]? = some k → ∃ a lb, ts[i]? = some (.ref a) ∧ SqT K H a [.int (k.length : Int), .ref lb] ∧ SqL K H lb (k.map V.int)) ∧ ks.Nodup ∧ ks.length < 64 ∧
  ∀ (pm : List Nat) (l : Addr), pm.Perm (List.range ks.length) → pm.Pairwise (fun i j => keyP ks i j = true) → H l = none → Q (.ref l) (upd H l (.lst (pm.map fun i => ts.getD i .non)))
end
end L2
end
section
set_option Elab.async false
set_option linter.all false
set_option maxRecDepth 100000
set_option maxHeartbeats 1000000
namespace L2
open PySem PySem.Spec PyProof.Rows
section
variable {prog : Program} {w : World} {A : Around} {E : Value → Shared → Prop} {s : Shared}
end
section
variable {X : Cx} {pins : List (Addr × Obj)} {σ : St} {H : Hp} {s : Shared}
def rItemsT : V → List V → Hp → VK → Prop := fun x vs H Q => ∃ d kvs, x = .ref d ∧ vs = [] ∧ H d = some (.dT kvs) ∧ ∀ p, H p = none → Q (.ref p) (upd H p (VW p d))
end
def ItT (a : Addr) (o : Obj) (kvs : List (List TKey × V)) : It where
  go := fun i H => H a = some (.frz o (.dT kvs)) ∧ i < kvs.length
  yld := fun i H x H' => ∃ T b q, x = .ref T ∧ H T = none ∧ H b = some (.tup (q.1.map tkV)) ∧ H' = upd H T (.tup [.ref b, q.2]) ∧ kvs[i]? = some q
  stop := fun i H => H a = some (.frz o (.dT kvs)) ∧ kvs.length ≤ i
section
variable {X : Cx} {elts : List Expr} {kk : Nat} {tpos : Pos} {tg : Expr}
def iItemsT (tl : TE) : TI := fun σ H R => tl σ H fun x H1 => ∃ p a kvs, x = .ref p ∧ H1 p = some (VW p a) ∧ H1 a = some (.dT kvs) ∧ ∀ o, R (ItT a o kvs) (upd H1 a (.frz o (.dT kvs)))
def sThawT (t : TS) : TS := fun D σ H => ∃ a kvs, H a = some (.dT kvs) ∧ t { D with nx := fun σ' H' => ∃ o, H' a = some (.frz o (.dT kvs)) ∧ D.nx σ' (upd H' a (.dT kvs)) } σ H
def tDispT (tk tv : TE) : TE := fun σ H Q => ∀ p, H p = none → tk σ (upd H p (.dT [])) fun x H1 => tv σ H1 fun y H2 => H2 p = some (.dT []) ∧ ∃ b k, x = .ref b ∧ H2 b = some (.tup (k.map tkV)) ∧ Q (.ref p) (upd H2 p (.dT [(k, y)]))
end
end L2
end
section
set_option Elab.async false
set_option linter.all false
set_option maxRecDepth 100000
set_option maxHeartbeats 1000000
namespace MyS
open PySem PySem.Spec PyProof.Rows PySem.W
section
variable {prog : Program} {w : World} {A : Around} {E : Value → Shared → Prop} {s : Shared}
end
end MyS
namespace L2
open PySem PySem.Spec PyProof.Rows
section
open MyS PySem.W
variable {prog : Program} {w : World} {A : Around} {E : Value → Shared → Prop} {s : Shared}
def PairN (h : Heap) (a : Addr) (v : Value) (k : Int × Str) : Prop := ∃ b o t t2 n, v = Value.ref b ∧ b ≠ a ∧ h.get? b = some o ∧ o.cls = .type "tuple" ∧ o.data = .seq #[.int k.1 t, .str k.2 t2] n
theorem PairN.keep {h h' : Heap} {a : Addr} {v : Value} {k : Int × Str} (p : PairN h a v k) (e : ∀ b o, b ≠ a → h.get? b = some o → h'.get? b = some o) : PairN h' a v k := by
  obtain ⟨b, o, t, t2, n, h1, h2, h3, h4⟩ := p
  exact ⟨b, o, t, t2, n, h1, h2, e b o h2 h3, h4⟩
def BefN (k l : Int × Str) : Prop := k.1 < l.1 ∨ k.1 = l.1 ∧ k.2.cps.toList < l.2.cps.toList
end
section
variable {X : Cx}
def rSortedU (K : PySem.W.Frag) : List V → Hp → VK → Prop := fun xs H Q => ∃ (p : Addr) (ts : List V) (ks : List (Int × Str)), xs = [.ref p] ∧ SqL K H p ts ∧ ts.length = ks.length ∧ (∀ (i : Nat) (k : Int × Str), ks[i]? = some k → ∃ a, ts[i]? = some (.ref a) ∧ SqT K H a [.int k.1, .str k.2]) ∧ (∀ (i : Nat) (k l : Int × Str), ks[i]? = some k → ks[i + 1]? = some l → BefN k l) ∧ ks.length ≤ 1000000 ∧
  ∀ (l : Addr), H l = none → Q (.ref l) (upd H l (.lst ts))
end
end L2
end
section
set_option Elab.async false
set_option linter.all false
set_option maxRecDepth 100000
set_option maxHeartbeats 1000000
namespace L2
open PySem PySem.Spec PyProof.Rows
section
variable {X : Cx}
end
end L2
end
section
set_option Elab.async false
set_option linter.all false
set_option maxRecDepth 100000
set_option maxHeartbeats 1000000
namespace L2
open PySem PySem.Spec PyProof.Rows
section
open MyS PySem.W
variable {X : Cx}
def rSortedS (K : PySem.W.Frag) : List V → Hp → VK → Prop := fun xs H Q => ∃ (p : Addr) (ss : List Str), xs = [.ref p] ∧ SqL K H p (ss.map V.str) ∧ ss.Nodup ∧ ss.length < 64 ∧
  ∀ (out : List Str) (l : Addr), out.Perm ss → out.Pairwise (fun a b => a.cps.toList < b.cps.toList) → H l = none → Q (.ref l) (upd H l (.lst (out.map V.str)))
end
end L2
end
section
set_option Elab.async false
set_option linter.all false
set_option maxRecDepth 100000
set_option maxHeartbeats 4000000
namespace L2
open PySem PySem.Spec PyProof.Rows
theorem layNew_keeps (t : SetTable) (es : Array (Int × Value)) (h : Int) (x : Value) : (layNew t es h x).2.1.led = t.led ∧ (t.plain = false → (layNew t es h x).2.1.plain = false) := by
  unfold layNew
  split
  · dsimp only
    unfold SetTable.orStandIn
    split
    · exact ⟨rfl, fun e => e⟩
    · exact ⟨rfl, fun _ => rfl⟩
  · exact ⟨rfl, fun _ => rfl⟩
theorem laid_keeps {mask finger moves : Nat} {led plain : Bool} {hs : Array Int} {t : SetTable} {o : Array Nat} (e : SetTable.laid mask finger moves led plain hs = some (t, o)) : t.led = led ∧ t.plain = plain := by
  unfold SetTable.laid at e
  cases q : SetTable.layClean mask hs with
  | none => rw [q] at e; cases e
  | some ow =>
    rw [q] at e
    injection e with e
    injection e with e1 e2
    subst e1
    exact ⟨rfl, rfl⟩
theorem relayAll_keeps (t : SetTable) (es : Array (Int × Value)) (n : Nat) : (relayAll t es n).2.1.led = t.led ∧ (t.plain = false → (relayAll t es n).2.1.plain = false) := by
  unfold relayAll
  split
  · rename_i t' o e
    dsimp only
    have k := laid_keeps e
    split
    · exact ⟨k.1, fun q => k.2.trans q⟩
    · exact ⟨rfl, fun _ => rfl⟩
  · exact ⟨rfl, fun _ => rfl⟩
abbrev setOb (es : Array (Int × Value)) (ep : Nat) (t : SetTable) : Obj := { cls := .type "set", dict := none, data := .set es ep t }
def TabOk (w : World) (es : Array (Int × Value)) (t : SetTable) : Prop := t.fits es.size = true ∧ t.led = !w.params.followText "set-order" ∧ (es.size = 0 ∨ t.plain = false)
def SetX (prog : Program) (w : World) (h : Heap) (a : Addr) (es : Array (Int × Value)) : Prop :=
  ∃ ep t, h.get? a = some (setOb es ep t) ∧ ElemsOf (PySem.strKind prog w) es.toList ∧ es.size < scanBound ∧ TabOk w es t
def txt : Value → Str
  | .str x _ => x
  | _ => ⟨#[]⟩
abbrev txts (es : Array (Int × Value)) : List Str := es.toList.map fun e => txt e.2
theorem str_is {k : Str} {x : Value} (h : Value.isStrOf k x = true) : txt x = k := by
  obtain ⟨t, rfl⟩ := Value.isStrOf_shape h; rfl
theorem str_scan {k : Str} {x : Value} (h : Value.isStrOf k x = true) : x.scannable = true := by
  obtain ⟨t, rfl⟩ := Value.isStrOf_shape h; rfl
section
variable {prog : Program} {w : World} {A : Around} {E : Value → Shared → Prop} {s : Shared}
theorem putOb {h : Heap} {a : Addr} {es es' : Array (Int × Value)} {ep : Nat} {t t' : SetTable} (ho : h.get? a = some (setOb es ep t)) : (h.update a (Obj.putSet es' t')).get? a = some (setOb es' (ep + 1) t') := by
  have := Heap.get?_update_self (Obj.putSet es' t') ho rfl
  exact this
theorem addX {a : Addr} {es : Array (Int × Value)} {k : Str} {x : Value} {Q : Bool → Shared → Prop} (hkey : Value.isStrOf k x = true) (hS : SetX prog w s.heap a es) (hroom : es.size + 1 < scanBound)
    (h : ∀ b h' es', Heap.SameBut a s.heap h' → SetX prog w h' a es' → (k ∈ txts es ∧ es'.toList.Perm es.toList ∨ k ∉ txts es ∧ (txts es').Perm (k :: txts es)) → Q b { s with heap := h' }) :
    wpAny (model prog w) A (setAddHashed a x (hashStr w k)) Q E s := by
  obtain ⟨ep, t, ho, hel, hb, hf, hled, hpl⟩ := id hS
  have hsc := str_scan hkey
  have e : s = { s with heap := s.heap } := by cases s; rfl
  unfold setAddHashed setAddHashedIn
  refine wpAny_holding (wpAny_bind (wpAny_setState_of ho rfl hf ?_))
  dsimp only
  rw [byScan_of (knd := PySem.strKind prog w) hsc hb hel]
  simp only [↓reduceIte]
  unfold setAddByScan
  refine wpAny_bind ?_
  refine wpAny_bind (wpAny_rule ?_)
  refine wpAny_bind (wpAny_setScan_of (knd := PySem.strKind prog w) (k := k) hkey ho rfl hf hel ?_)
  cases hr : List.findIdx? (fun e => (PySem.strKind prog w).is k e.2) es.toList with
  | some j =>
    dsimp only
    obtain ⟨hj, hpj, _⟩ := List.findIdx?_eq_some_iff_getElem.mp hr
    refine wpAny_pure (wpAny_pure ?_)
    rw [e]
    exact h _ s.heap es (Heap.SameBut.refl a s.heap) hS (.inl ⟨List.mem_map.mpr ⟨es.toList[j], List.getElem_mem hj, str_is hpj⟩, List.Perm.refl _⟩)
  | none =>
    dsimp only
    have hno : k ∉ txts es := fun q => by
      obtain ⟨y, hy, q⟩ := List.mem_map.mp q
      obtain ⟨⟨k', hk', _⟩, _⟩ := hel y hy
      have e1 : k' = k := (str_is hk').symm.trans q
      have := List.findIdx?_eq_none_iff.mp hr y hy
      rw [← e1, hk'] at this
      cases this
    have hperm := layNew_perm t es (hashStr w k) x
    have hfits := layNew_fits t es (hashStr w k) x
    have hkeep := layNew_keeps t es (hashStr w k) x
    show wpAny _ _ _ _ _ _
    change wpAny _ _ (match layNew t es (hashStr w k) x with | (es, t, wasDummy, gave) => _) _ _ _
    generalize hL : layNew t es (hashStr w k) x = L at hperm hfits hkeep ⊢
    obtain ⟨es1, t1, wasDummy, gave⟩ := L
    dsimp only at hperm hfits hkeep ⊢
    rw [Array.toList_push] at hperm
    have hel1 : ElemsOf (PySem.strKind prog w) es1.toList := (ElemsOf.push (knd := PySem.strKind prog w) hel hkey hsc).perm hperm
    have hsz : es1.size = es.size + 1 := by rw [← Array.length_toList, hperm.length_eq, List.length_append, Array.length_toList]; rfl
    have hb1 : es1.size < scanBound := by rw [hsz]; exact hroom
    have htx : (txts es1).Perm (k :: txts es) := by
      have := hperm.map fun e : Int × Value => txt e.2
      rw [List.map_append] at this
      refine this.trans ?_
      rw [List.map_singleton, str_is hkey]
      exact List.perm_append_singleton _ _
    have hgw : ∀ (b : Bool) {s₁ : Shared} {Q' : Unit → Shared → Prop}, Q' () s₁ → wpAny (model prog w) A (match b with | true => rule "set.scan.the-table-gave-way" | false => pure ()) Q' E s₁ :=
      fun b s₁ Q' hq => by cases b <;> first | exact wpAny_pure hq | exact wpAny_rule hq
    refine wpAny_bind (hgw _ ?_)
    have tail : ∀ t2 : SetTable, t2.fits es1.size = true → t2.led = t.led → t2.plain = false → ∀ wd : Bool, wpAny (model prog w) A (do
        storeSet a es1 t2
        if (!wd && t2.tooFull) = true then do
            (match (relayAll t2 es1 (SetTable.grown es1.size)).2.2 with | true => rule "set.scan.the-table-gave-way" | false => pure ())
            storeSet a (relayAll t2 es1 (SetTable.grown es1.size)).1 (relayAll t2 es1 (SetTable.grown es1.size)).2.1
            pure (some true)
          else pure (some true)) (fun r s' => wpAny (model prog w) A (match r with | some added => pure added | none => setAddHashedIn a x (hashStr w k) 99999) Q E s') E s := by
      intro t2 f2 l2 p2 wd
      refine wpAny_bind (wpAny_storeSet_of ho rfl ?_ (fits_of_scanBound hb1))
      have ho1 := putOb (es' := es1) (t' := t2) ho
      have sb1 := Heap.SameBut.update s.heap a (Obj.putSet es1 t2)
      split
      · have hp := relayAll_perm t2 es1 (SetTable.grown es1.size)
        have hfr := relayAll_fits t2 es1 (SetTable.grown es1.size)
        have hkr := relayAll_keeps t2 es1 (SetTable.grown es1.size)
        generalize hRl : relayAll t2 es1 (SetTable.grown es1.size) = Rl at hp hfr hkr ⊢
        obtain ⟨es2, t3, gave2⟩ := Rl
        dsimp only at hp hfr hkr ⊢
        have hs2 : es2.size = es1.size := by rw [← Array.length_toList, hp.length_eq, Array.length_toList]
        have hb2 : es2.size < scanBound := by rw [hs2]; exact hb1
        refine wpAny_bind (hgw _ ?_)
        refine wpAny_bind (wpAny_storeSet_of ho1 rfl ?_ (fits_of_scanBound hb2))
        refine wpAny_pure (wpAny_pure ?_)
        exact h _ _ es2 (sb1.trans (Heap.SameBut.update _ a _)) ⟨_, t3, putOb ho1, hel1.perm hp, hb2, hfr, (hkr.1.trans l2).trans hled, .inr (hkr.2 p2)⟩ (.inr ⟨hno, (hp.map _).trans htx⟩)
      · exact wpAny_pure (wpAny_pure (h _ _ es1 sb1 ⟨_, t2, ho1, hel1, hb1, f2, l2.trans hled, .inr p2⟩ (.inr ⟨hno, htx⟩)))
    obtain ⟨tk, rfl⟩ := Value.isStrOf_shape hkey
    by_cases hp1 : t1.plain = true
    · rw [if_pos hp1]
      refine wpAny_bind ?_
      rw [hashByValue_scannable 8 hsc]
      refine wpAny_pure ?_
      exact tail { t1 with plain := false } hfits hkeep.1 rfl wasDummy
    · rw [if_neg hp1]
      refine wpAny_bind (wpAny_pure ?_)
      simp only [↓reduceIte]
      exact tail t1 hfits hkeep.1 (by simpa using hp1) wasDummy
end
def SetK (prog : Program) (w : World) (h : Heap) (a : Addr) (ks : List Str) : Prop := ∃ es, SetX prog w h a es ∧ (txts es).Nodup ∧ (∀ x, x ∈ txts es ↔ x ∈ ks) ∧ es.size ≤ ks.length
theorem SetK.stay {prog : Program} {w : World} {h h' : Heap} {S : Addr} {ks : List Str} (x : SetK prog w h S ks) (e : ∀ o, h.get? S = some o → h'.get? S = some o) : SetK prog w h' S ks := by
  obtain ⟨es, ⟨ep, t, ho, r⟩, q⟩ := x
  exact ⟨es, ⟨ep, t, e _ ho, r⟩, q⟩
section
variable {prog : Program} {w : World} {A : Around} {R : Result → Shared → Prop} {I : Addr} {fp wr : List Addr} {G : Array GenState → Array GenState → Prop} {P : Nat → Value → Prop} {St : Nat → Shared → Prop}
theorem setK_loop {ks : List Str} (W : WalksS prog w A.in1 I fp wr G ks.length P St) (S : Addr) (hS : S ∉ fp) (hv : ∀ i v, P i v → Value.isStrOf (ks.getD i ⟨#[]⟩) v = true) (hn : ks.length + 1 < scanBound) :
    ∀ (m i : Nat) (s : Shared), ks.length - i = m → i ≤ ks.length → St i s → SetK prog w s.heap S (ks.take i) →
      (∀ s', Moved (S :: wr) G s s' → SetK prog w s'.heap S ks → R (.ok (.ret .none)) s') →
      codeAny (model prog w) A (.builtin "set.update.loop" ⟨[.ref S, .ref I], []⟩) R s := by
  have nw : S ∉ wr := fun z => hS (W.sub _ z)
  have more : ∀ b ∈ wr, b ∈ S :: wr := fun b z => List.mem_cons_of_mem _ z
  intro m
  induction m with
  | zero =>
    intro i s e1 e2 st x hR
    obtain rfl : i = ks.length := by omega
    refine codeAny_builtin F.entry_set_update_loop ?_
    rw [Around.under_plainId F.plain_set_update_loop _]
    refine wpAny_bind (m := pyNext (.ref I)) (W.done s _ _ st fun s' mv => ?_)
    rw [List.take_length] at x
    exact wpAny_pure (hR s' (mv.mono more) (x.stay fun o ho => mv.heap S _ nw ho))
  | succ m ih =>
    intro i s e1 e2 st x hR
    have lt : i < ks.length := by omega
    refine codeAny_builtin F.entry_set_update_loop ?_
    rw [Around.under_plainId F.plain_set_update_loop _]
    refine wpAny_bind (m := pyNext (.ref I)) (W.item i s _ _ lt st fun v s' hP st' mv => ?_)
    have hk := hv i v hP
    obtain ⟨es, sx, nd, mem, sz⟩ := x.stay fun o ho => mv.heap S _ nw ho
    have room : es.size + 1 < scanBound := by rw [List.length_take] at sz; omega
    refine wpAny_bind (m := holding [v] (setAdd S v)) (wpAny_holding ?_)
    unfold setAdd
    refine wpAny_holding (wpAny_bind ((PySem.strKind prog w).pyHash (k := ks.getD i ⟨#[]⟩) hk ?_))
    refine addX (s := { s' with toks := s'.toks + 1 }) hk sx room fun b h' es' sb y al => ?_
    have e3 : ks.take (i + 1) = ks.take i ++ [ks.getD i ⟨#[]⟩] := by
      rw [List.take_succ_eq_append_getElem lt]; simp [lt]
    have y' : SetK prog w h' S (ks.take (i + 1)) := by
      rcases al with ⟨hin, pm⟩ | ⟨hno, pm⟩
      · have pt : (txts es').Perm (txts es) := pm.map _
        refine ⟨es', y, pt.nodup_iff.mpr nd, fun z => ?_, ?_⟩
        · rw [pt.mem_iff, mem z, e3, List.mem_append, List.mem_singleton]
          exact ⟨.inl, fun q => q.elim id fun q => q ▸ (mem _).mp hin⟩
        · have : es'.size = es.size := by rw [← Array.length_toList, pm.length_eq, Array.length_toList]
          rw [this, e3, List.length_append]; omega
      · refine ⟨es', y, pm.nodup_iff.mpr (List.nodup_cons.mpr ⟨hno, nd⟩), fun z => ?_, ?_⟩
        · rw [pm.mem_iff, List.mem_cons, mem z, e3, List.mem_append, List.mem_singleton]
          exact Or.comm
        · have := pm.length_eq
          simp only [List.length_map, Array.length_toList, List.length_cons] at this
          rw [this, e3, List.length_append, List.length_singleton]; omega
    refine wpAny_pure ⟨plainId_quiet F.plain_set_update_loop _, ih (i + 1) _ (by omega) lt (W.frame _ s' _ _ st' (Nat.le_succ _) fun b hb o e => ?_) y' fun s'' mv'' z => ?_⟩
    · exact (sb.2 b (fun q => hS (by rw [← q]; exact hb))).trans e
    · refine hR s'' (Moved.trans W.gtrans ((mv.mono more).then_heap (Nat.le_succ _) fun b o hb e => ?_) mv'') z
      exact (sb.2 b (fun q => hb (by rw [q]; exact List.mem_cons_self))).trans e
end
section
variable {prog : Program} {w : World} {A : Around} {E : Value → Shared → Prop} {s : Shared}
theorem tup_set : isSubtype (.type "tuple") (.type "set") = pure false := by
  rw [isSubtype_type]; kernel_rfl
theorem tup_fset : isSubtype (.type "tuple") (.type "frozenset") = pure false := by
  rw [isSubtype_type]; kernel_rfl
abbrev setO (w : World) : Obj := setOb #[] 0 (.fresh 0 0 (!w.params.followText "set-order"))
theorem setO_at (prog : Program) (w : World) {h : Heap} {a : Addr} (e : h.get? a = some (setO w)) : SetK prog w h a [] :=
  ⟨#[], ⟨0, _, e, (fun _ q => nomatch q), (by unfold scanBound; decide), rfl, rfl, .inl rfl⟩, List.nodup_nil, (fun _ => Iff.rfl), Nat.le_refl _⟩
theorem set_new (a : Value) {Q₁ : Value → Shared → Prop} (h : Q₁ (.ref s.heap.objs.size) { s with heap := s.heap.push (setO w) }) :
    codeAny (model prog w) A (.call (.builtin "set.__new__") ⟨[.type "set", a], []⟩) (wants Q₁ E) s := by
  refine codeAny_of_tree ?_
  show wpAny _ A.in1 (do checkBuiltinCall "set.__new__" ⟨[.type "set", a], []⟩; again (.builtin "set.__new__" ⟨[.type "set", a], []⟩)) _ _ s
  refine wpAny_bind (wpAny_of_eq (F.newCall_set_1 a) (wpAny_pure ⟨plainId_quiet F.plain_set_new _, codeAny_builtin F.entry_set_new ?_⟩))
  rw [Around.under_plainId F.plain_set_new _]
  unfold Builtin.«set.__new__» Builtin.Frozenset.newClass
  have hsub := sub_set_self
  obtain ⟨hp, g, d, tk, os⟩ := s
  dsimp only
  wp_walk
  refine wpAny_askSetting (wpAny_pure ?_)
  dsimp only
  simp only [newObj]
  refine wpAny_bind (wpAny_alloc (wpAny_pure ?_))
  exact wpAny_pure h
theorem setK_init {A0 : Around} {R : Result → Shared → Prop} {l : Addr} {items : Array Value} {ks : List Str} (hh : A.handled = none) (hl : s.heap.IsTuple l items) (hlen : items.size = ks.length) (hv : ∀ i v, items[i]? = some v → Value.isStrOf (ks.getD i ⟨#[]⟩) v = true) (hb : ks.length + 1 < scanBound)
    (hR : ∀ h' tk, SetK prog w h' s.heap.objs.size ks → (∀ b o, b < s.heap.objs.size → s.heap.get? b = some o → h'.get? b = some o) → R (.ok (.ret .none)) { s with heap := h', toks := tk }) :
    wpAny (model prog w) A (Builtin.«set.__init__» ⟨[.ref s.heap.objs.size, .ref l], []⟩) (fun fin s' => match fin with | .done f => R (.ok f) s' | .again c' => c'.quiet = true ∧ codeAny (model prog w) A0 c' R s') (fun e s' => R (.error e) s') { s with heap := s.heap.push (setO w) } := by
  have new : (s.heap.push (setO w)).get? s.heap.objs.size = some (setO w) := Heap.get?_push_size _ rfl
  have ty : Shared.TypeIs { s with heap := s.heap.push (setO w) } (.ref s.heap.objs.size) "set" := ⟨_, new, rfl⟩
  obtain ⟨ol, hol, hcl, nl, hdl⟩ := id hl
  obtain ⟨ocls, odict, odata, oslots⟩ := ol
  simp only at hcl hdl
  subst hcl; subst hdl
  have old : (s.heap.push (setO w)).get? l = some { cls := .type "tuple", dict := odict, data := .seq items nl, slots := oslots } := Heap.get?_push_of_some _ hol
  have n1 := tup_set
  have n2 := tup_fset
  have n3 : (Value.type "tuple" == Value.type "dict") = false := by decide
  have tl : (s.heap.push (setO w)).IsTuple l items := ⟨_, old, rfl, nl, rfl⟩
  unfold Builtin.«set.__init__» noKeywords Builtin.Frozenset.updateFrom
  generalize hPI : pyIter = PI
  wp_walk
  subst hPI
  refine wpAny_pyIter_tuple tl (wpAny_bind (wpAny_runValue ?_))
  have lS : l < s.heap.objs.size := Heap.lt_size hol
  have h3 : A.in1.handled = none := by simp [hh]
  have ne : l ≠ (s.heap.push (setO w)).objs.size := by
    rw [Heap.size_push]
    exact Nat.ne_of_lt (Nat.lt_succ_of_lt lS)
  have nf : s.heap.objs.size ∉ [(s.heap.push (setO w)).objs.size, l] := by
    rw [Heap.size_push]
    simp only [List.mem_cons, List.mem_singleton, List.not_mem_nil, or_false, not_or]
    exact ⟨Nat.ne_of_lt (Nat.lt_succ_self _), Nat.ne_of_gt lS⟩
  have WW := (Walks.tuple (prog := prog) (w := w) (A := A.in1) h3 _ l ne items).toS
  rw [hlen] at WW
  refine setK_loop WW s.heap.objs.size nf hv hb (ks.length - 0) 0 _ (by omega) (Nat.zero_le _) ?st0 ?x0 fun s' mv x => ?_
  case st0 => exact ⟨⟨_, Heap.get?_push_size _ rfl, rfl, rfl⟩, tl.push _⟩
  case x0 => exact setO_at prog w (Heap.get?_push_of_some _ new)
  obtain ⟨h', g', d', tk', os'⟩ := s'
  obtain rfl : g' = s.gens := mv.gens
  obtain rfl : d' = s.drawn := mv.drawn
  obtain rfl : os' = s.os := mv.os
  refine wpAny_pure ?_
  refine wpAny_pure (hR h' tk' x fun b o hb e => ?_)
  have b1 : b ≠ s.heap.objs.size := Nat.ne_of_lt hb
  have b2 : b ≠ (s.heap.push (setO w)).objs.size := by
    rw [Heap.size_push]
    exact Nat.ne_of_lt (Nat.lt_succ_of_lt hb)
  refine mv.heap b o ?_ (Heap.get?_push_of_some _ (Heap.get?_push_of_some _ e))
  simp only [List.mem_cons, List.mem_singleton, List.not_mem_nil, or_false, not_or]
  exact ⟨b1, b2⟩
theorem call_setK {l : Addr} {items : Array Value} {ks : List Str} {Q : Value → Shared → Prop} (hh : A.handled = none) (hl : s.heap.IsTuple l items) (hlen : items.size = ks.length) (hv : ∀ i v, items[i]? = some v → Value.isStrOf (ks.getD i ⟨#[]⟩) v = true) (hb : ks.length + 1 < scanBound)
    (h : ∀ h' tk, SetK prog w h' s.heap.objs.size ks → (∀ b o, b < s.heap.objs.size → s.heap.get? b = some o → h'.get? b = some o) → Q (.ref s.heap.objs.size) { s with heap := h', toks := tk }) :
    wpAny (model prog w) A (call (.type "set") [.ref l]) Q E s := by
  obtain ⟨c0, tl0, m0⟩ := F.called_set.mro
  have m1 := F.called_set.made
  have m2 := F.called_set.sub
  refine wpAny_call (codeAny_of_tree (?_ : wpAny _ _ (callAny (.type "set") _) _ _ _))
  refine wpAny_pure (And.intro (Code.quiet_builtin _ (by decide +kernel)) (codeAny_builtin F.entry_type_call ?_))
  rw [Around.under_plain (weight_type_call_type "set" [Value.ref l] []) rfl]
  have m3 := F.called_set.notType
  have m4 := F.called_set.canCreate
  have m5 := F.typeCall_set_1 (.ref l)
  all_goals (repeat (any_goals (first | assumption | wp_step)))
  refine codeAny_mono (set_new (w := w) (.ref l) (E := E) (Q₁ := fun v s₁ => v = .ref s.heap.objs.size ∧ s₁ = { s with heap := s.heap.push (setO w) }) ⟨rfl, rfl⟩) fun r s₁ hr => ?_
  match r, hr with
  | .error e, hr => exact hr
  | .ok (.ret v), hr =>
    obtain ⟨rfl, rfl⟩ := hr
    have ty : Shared.TypeIs { s with heap := s.heap.push (setO w) } (.ref s.heap.objs.size) "set" := ⟨_, Heap.get?_push_size _ rfl, rfl⟩
    have m6 := F.called_set.init.lookup
    have m7 := F.called_set.init.bind (.ref s.heap.objs.size)
    all_goals (repeat (any_goals (first | assumption | wp_step)))
    refine codeAny_mono (codeAny_call_builtin (R := wants (fun q s₂ => q = .none ∧ ∃ h' tk, s₂ = { s with heap := h', toks := tk } ∧ SetK prog w h' s.heap.objs.size ks ∧ ∀ b o, b < s.heap.objs.size → s.heap.get? b = some o → h'.get? b = some o) E)
      F.called_set.init.plain F.entry_set_init (check_set_init_1 ty (setK_init (by simp [hh]) hl hlen hv hb fun h' tk x k => ⟨rfl, h', tk, rfl, x, k⟩))) fun r₂ s₂ hr₂ => ?_
    match r₂, hr₂ with
    | .error e, hr₂ => exact hr₂
    | .ok (.ret q), hr₂ =>
      obtain ⟨rfl, h', tk, rfl, x, k⟩ := hr₂
      all_goals (repeat (any_goals (first | assumption | wp_step)))
      exact h _ _ x k
    | .ok .next, hr₂ => exact hr₂.elim
    | .ok .brk, hr₂ => exact hr₂.elim
    | .ok .cont, hr₂ => exact hr₂.elim
  | .ok .next, hr => exact hr.elim
  | .ok .brk, hr => exact hr.elim
  | .ok .cont, hr => exact hr.elim
end
end L2
end
section
set_option Elab.async false
set_option linter.all false
set_option maxRecDepth 100000
set_option maxHeartbeats 4000000
namespace L2
open PySem PySem.Spec PyProof.Rows
theorem own_si : Manifest.owners.lookup (String.ofList ['r', 'o', 't', 'a', 'r', 'e', 't', 'i', '_', 't', 'e', 's'].reverse) = some Manifest.sig_set_iterator := by kernel_rfl
theorem slot_si_next : Slot "set_iterator" "__next__" "set_iterator.__next__" :=
  .of (owner := "set_iterator") (n := "__next__") (by rw [typeLookup_type, builtinLookup_eq_fast]; kernel_rfl) (by decide +kernel) (by decide +kernel) (by decide +kernel)
    (by first | exact .inl (by decide +kernel) | exact .inr (by decide +kernel)) (by rw [isSubtype_type]; kernel_rfl)
theorem entry_si_next : entryFor table "set_iterator.__next__" = some Builtin.«set_iterator.__next__» := entryFor_of_tree (by kernel_rfl)
theorem args_si_next (a : Value) : argsOk "set_iterator.__next__" ⟨[a], []⟩ := by
  unfold argsOk; rw [signature?_of (id := "set_iterator.__next__") (n := ['_', '_', 't', 'x', 'e', 'n', '_', '_']) (o := ['r', 'o', 't', 'a', 'r', 'e', 't', 'i', '_', 't', 'e', 's']) (by kernel_rfl) own_si]; kernel_rfl
theorem slot_si_iter : Slot "set_iterator" "__iter__" "set_iterator.__iter__" :=
  .of (owner := "set_iterator") (n := "__iter__") (by rw [typeLookup_type, builtinLookup_eq_fast]; kernel_rfl) (by decide +kernel) (by decide +kernel) (by decide +kernel)
    (by first | exact .inl (by decide +kernel) | exact .inr (by decide +kernel)) (by rw [isSubtype_type]; kernel_rfl)
theorem entry_si_iter : entryFor table "set_iterator.__iter__" = some Builtin.«dict_keyiterator.__iter__» :=
  entryFor_alias (id' := "dict_keyiterator.__iter__") (by kernel_rfl) (by first | rfl | decide +kernel | (unfold String.splitOn; simp +decide [String.splitOnAux])) (by decide +kernel) (by kernel_rfl)
theorem args_si_iter (a : Value) : argsOk "set_iterator.__iter__" ⟨[a], []⟩ := by
  unfold argsOk; rw [signature?_of (id := "set_iterator.__iter__") (n := ['_', '_', 'r', 'e', 't', 'i', '_', '_']) (o := ['r', 'o', 't', 'a', 'r', 'e', 't', 'i', '_', 't', 'e', 's']) (by kernel_rfl) own_si]; kernel_rfl
theorem entry_set_iter : entryFor table "set.__iter__" = some Builtin.«frozenset.__iter__» :=
  entryFor_alias (id' := "frozenset.__iter__") (by kernel_rfl) (by first | rfl | decide +kernel | (unfold String.splitOn; simp +decide [String.splitOnAux])) (by decide +kernel) (by kernel_rfl)
abbrev itOb (f : Value) (i : Nat) (a : Addr) (n ep : Nat) : Obj := { cls := .type "set_iterator", dict := none, data := .fields #[f, .int i 0, .ref a, .int n 0, .int ep 0] }
section
variable {prog : Program} {w : World} {A : Around} {E : Value → Shared → Prop} {s : Shared}
theorem next_draw {I a T : Addr} {i ep : Nat} {es : Array (Int × Value)} {t : SetTable} {pl : List Nat} {e1 j : Nat} {x : Int × Value} {Q : Option Value → Shared → Prop}
    (hi : s.heap.get? I = some (itOb (.ref T) i a es.size ep)) (ha : s.heap.get? a = some (setOb es ep t)) (hf : t.fits es.size = true) (hT : s.heap.get? T = some (seqObj "tuple" (pl.map fun (i : Nat) => rawInt i).toArray e1)) (hj : pl[i]? = some j) (hx : es[j]? = some x)
    (hQ : ∀ h', h'.get? I = some (itOb (.ref T) (i + 1) a es.size ep) → Heap.SameBut I s.heap h' → Q (some x.2) { s with heap := h' }) :
    wpAny (model prog w) A (pyNext (.ref I)) Q E s := by
  have ty : s.TypeIs (.ref I) "set_iterator" := ⟨_, hi, rfl⟩
  unfold pyNext
  refine wpAny_bind (wpAny_attempt (wpAny_callSpecial?_slot (name := Str.ofString "__next__") ty slot_si_next (wpAny_call_entry slot_si_next ty entry_si_next ?_ (args_si_next _))))
  unfold Builtin.«set_iterator.__next__»
  refine wpAny_bind (m := slotArgs "__next__" 0 _) (wpAny_pure ?_)
  refine wpAny_bind (wpAny_fieldsOf hi rfl ?_)
  dsimp only
  refine wpAny_bind (wpAny_setEntries_of ha rfl hf ?_)
  rw [if_neg (by simp)]
  refine wpAny_bind (wpAny_seqItems hT rfl ?_)
  have e2 : ((pl.map fun (i : Nat) => rawInt i).toArray)[((i : Nat) : Int).toNat]? = some (.int (j : Int) 0) := by
    rw [Int.toNat_natCast, List.getElem?_toArray, List.getElem?_map, hj]; rfl
  dsimp only
  rw [e2]
  dsimp only
  unfold setNextDrawn
  refine wpAny_bind (wpAny_bind (wpAny_setState_of ha rfl hf ?_))
  dsimp only
  rw [Int.toNat_natCast, Int.toNat_natCast, if_neg (by simp), hx]
  refine wpAny_pure ?_
  refine wpAny_bind (wpAny_setField_rec hi (by simp) fun h' e3 sb => ?_)
  exact wpAny_pure ⟨_, rfl, wpAny_pure (hQ h' (by rw [e3]; rfl) sb)⟩
theorem stop_raise {Q : Option Value → Shared → Prop} {R : PySem.Fin → Shared → Prop} (hh : A.handled = none) (hQ : ∀ h', (∀ b o, s.heap.get? b = some o → h'.get? b = some o) → Q none { s with heap := h' }) :
    wpAny (model prog w) A.in1 (do let e ← newExc (.type "StopIteration") []; raiseNew e) R (fun e s' => wpAny (model prog w) A (do let b ← isInstance e (.type "StopIteration"); if b = true then pure none else throw e) Q E s') s := by
  refine wpAny_bind ?_
  simp only [newExc, newTuple]
  refine wpAny_bind (wpAny_newObj_type ?_ (by size_fits))
  refine wpAny_bind (m := firstArgMember _ _) (wpAny_of_eq (a := Value.none) (by first | rfl | (simp only [firstArgMember]; rfl)) ?_)
  refine wpAny_newObj_type ?_ (by size_fits)
  simp only [raiseNew]
  refine wpAny_bind (wpAny_handled ?_)
  rw [show A.in1.handled = none from hh]
  refine wpAny_bind (wpAny_pure (wpAny_throw ?_))
  refine wpAny_bind (wpAny_isInstance (T := "StopIteration") (b := true) ⟨_, Heap.get?_push_size _ rfl, rfl⟩ isSubtype_stop ?_)
  exact wpAny_pure (hQ _ fun b o e => Heap.get?_push_of_some _ (Heap.get?_push_of_some _ e))
theorem end_draw {I a T : Addr} {i ep : Nat} {es : Array (Int × Value)} {t : SetTable} {pl : List Nat} {e1 : Nat} {Q : Option Value → Shared → Prop} (hh : A.handled = none)
    (hi : s.heap.get? I = some (itOb (.ref T) i a es.size ep)) (ha : s.heap.get? a = some (setOb es ep t)) (hf : t.fits es.size = true) (hT : s.heap.get? T = some (seqObj "tuple" (pl.map fun (i : Nat) => rawInt i).toArray e1)) (hj : pl[i]? = none)
    (hQ : ∀ h', (∀ b o, b ≠ I → s.heap.get? b = some o → h'.get? b = some o) → Q none { s with heap := h' }) :
    wpAny (model prog w) A (pyNext (.ref I)) Q E s := by
  have ty : s.TypeIs (.ref I) "set_iterator" := ⟨_, hi, rfl⟩
  unfold pyNext
  refine wpAny_bind (wpAny_attempt (wpAny_callSpecial?_slot (name := Str.ofString "__next__") ty slot_si_next (wpAny_call_entry slot_si_next ty entry_si_next ?_ (args_si_next _))))
  unfold Builtin.«set_iterator.__next__»
  refine wpAny_bind (m := slotArgs "__next__" 0 _) (wpAny_pure ?_)
  refine wpAny_bind (wpAny_fieldsOf hi rfl ?_)
  dsimp only
  refine wpAny_bind (wpAny_setEntries_of ha rfl hf ?_)
  rw [if_neg (by simp)]
  refine wpAny_bind (wpAny_seqItems hT rfl ?_)
  have e2 : ((pl.map fun (i : Nat) => rawInt i).toArray)[((i : Nat) : Int).toNat]? = none := by
    rw [Int.toNat_natCast, List.getElem?_toArray, List.getElem?_map, hj]; rfl
  dsimp only
  rw [e2]
  dsimp only
  refine wpAny_bind (wpAny_setField_rec hi (by simp) fun h1 e3 sb1 => ?_)
  refine wpAny_bind (wpAny_setField_rec (s := { s with heap := h1 }) e3 (by simp) fun h2 e4 sb2 => ?_)
  refine stop_raise (s := { s with heap := h2 }) hh fun h3 ex => hQ h3 fun b o hb e => ex b o ?_
  exact (sb2.2 b hb).trans ((sb1.2 b hb).trans e)
theorem byText_eq {Q : Bool → Shared → Prop} (h : Q (w.params.followText "set-order") s) : wpAny (model prog w) A setsByText Q E s := by
  unfold setsByText
  exact wpAny_bind (wpAny_askSetting (wpAny_pure h))
theorem walk_text {a : Addr} {ep : Nat} {es : Array (Int × Value)} {t : SetTable} {Q : Array (Int × Value) → Shared → Prop} (ha : s.heap.get? a = some (setOb es ep t)) (hf : t.fits es.size = true) (hb : w.params.followText "set-order" = true) (h : Q (pickOrder (w.params.setOrder a ep) es) s) :
    wpAny (model prog w) A (setWalk a) Q E s := by
  unfold setWalk
  refine wpAny_bind (wpAny_setState_of ha rfl hf ?_)
  dsimp only
  refine wpAny_bind (byText_eq ?_)
  rw [hb]
  exact wpAny_bind (wpAny_askSetting (wpAny_pure h))
theorem next_int {I a : Addr} {f i ep : Nat} {es : Array (Int × Value)} {t : SetTable} {r : Option (Value × Nat)} {Q : Option Value → Shared → Prop} (hh : A.handled = none)
    (hi : s.heap.get? I = some (itOb (.int f 0) i a es.size ep)) (ha : s.heap.get? a = some (setOb es ep t)) (hf : t.fits es.size = true)
    (hr : ∀ (A : Around) (E : Value → Shared → Prop) (Q : Option (Value × Nat) → Shared → Prop), Q r s → wpAny (model prog w) A (setNext a f i ep) Q E s)
    (hQ : ∀ x j, r = some (x, j) → ∀ h', h'.get? I = some (itOb (.int j 0) (i + 1) a es.size ep) → Heap.SameBut I s.heap h' → Q (some x) { s with heap := h' })
    (hN : r = none → ∀ h', (∀ b o, b ≠ I → s.heap.get? b = some o → h'.get? b = some o) → Q none { s with heap := h' }) :
    wpAny (model prog w) A (pyNext (.ref I)) Q E s := by
  have ty : s.TypeIs (.ref I) "set_iterator" := ⟨_, hi, rfl⟩
  unfold pyNext
  refine wpAny_bind (wpAny_attempt (wpAny_callSpecial?_slot (name := Str.ofString "__next__") ty slot_si_next (wpAny_call_entry slot_si_next ty entry_si_next ?_ (args_si_next _))))
  unfold Builtin.«set_iterator.__next__»
  refine wpAny_bind (m := slotArgs "__next__" 0 _) (wpAny_pure ?_)
  refine wpAny_bind (wpAny_fieldsOf hi rfl ?_)
  dsimp only
  refine wpAny_bind (wpAny_setEntries_of ha rfl hf ?_)
  rw [if_neg (by simp)]
  rw [Int.toNat_natCast, Int.toNat_natCast, Int.toNat_natCast]
  refine wpAny_bind (hr _ _ _ ?_)
  match r, hQ, hN with
  | none, _, hN =>
    dsimp only
    refine wpAny_bind (wpAny_setField_rec hi (by simp) fun h1 e3 sb1 => ?_)
    exact stop_raise (s := { s with heap := h1 }) hh fun h3 ex => hN rfl h3 fun b o hb e => ex b o ((sb1.2 b hb).trans e)
  | some (x, j), hQ, _ =>
    dsimp only
    refine wpAny_bind (wpAny_setField_rec hi (by simp) fun h1 e3 sb1 => ?_)
    refine wpAny_bind (wpAny_setField_rec (s := { s with heap := h1 }) e3 (by simp) fun h2 e4 sb2 => ?_)
    exact wpAny_pure ⟨_, rfl, wpAny_pure (hQ x j rfl h2 (by rw [e4]; rfl) (sb1.trans sb2))⟩
theorem next_text {a : Addr} {f i ep : Nat} {es : Array (Int × Value)} {t : SetTable} {Q : Option (Value × Nat) → Shared → Prop} (ha : s.heap.get? a = some (setOb es ep t)) (hf : t.fits es.size = true) (hb : w.params.followText "set-order" = true)
    (h : Q (((pickOrder (w.params.setOrder a ep) es)[i]?).map fun e => (e.2, f)) s) : wpAny (model prog w) A (setNext a f i ep) Q E s := by
  unfold setNext
  refine wpAny_bind (wpAny_setState_of ha rfl hf ?_)
  dsimp only
  refine wpAny_bind (byText_eq ?_)
  rw [hb, if_pos rfl, if_neg (by simp)]
  refine wpAny_bind (walk_text ha hf hb ?_)
  exact wpAny_pure h
theorem next_slot {a : Addr} {f i ep : Nat} {es : Array (Int × Value)} {t : SetTable} {Q : Option (Value × Nat) → Shared → Prop} (ha : s.heap.get? a = some (setOb es ep t)) (hf : t.fits es.size = true) (hb : w.params.followText "set-order" = false) (hl : t.led = true) (h1 : es.size ≤ 1)
    (h : Q (match es[SetTable.below t.place f]?, t.place[SetTable.below t.place f]? with | some (_, x), some j => some (x, j + 1) | _, _ => none) s) : wpAny (model prog w) A (setNext a f i ep) Q E s := by
  unfold setNext
  refine wpAny_bind (wpAny_setState_of ha rfl hf ?_)
  dsimp only
  refine wpAny_bind (byText_eq ?_)
  rw [hb, if_neg (by decide)]
  refine wpAny_ite_split (fun hd => ?_) (fun _ => ?_)
  · have hd' : (!t.plain && decide (es.size > 1)) = true := hd
    simp only [Bool.and_eq_true, decide_eq_true_eq] at hd'
    omega
  · show wpAny _ _ ((if (!t.led && !es.isEmpty) = true then unsupported "set:maker-not-led" else pure ()) >>= _) _ _ _
    rw [hl, if_neg (by simp)]
    exact wpAny_bind (wpAny_pure (wpAny_pure h))
theorem erase_perm {α : Type} : ∀ {l : List α} {i : Nat} (h : i < l.length), (l[i] :: l.eraseIdx i).Perm l
  | x :: l, 0, h => List.Perm.refl _
  | x :: l, i + 1, h => by
    have q := erase_perm (l := l) (i := i) (by simpa using h)
    exact (List.Perm.swap ..).trans (q.cons x)
theorem pick_perm {α : Type} (next : Nat → Nat) (xs : Array α) : (pickOrder next xs).toList.Perm xs.toList := by
  have go : ∀ (fuel k : Nat) (left : List α) (out : Array α), left.length = fuel → (pickOrder.go next fuel k left out).toList.Perm (out.toList ++ left) := by
    intro fuel
    induction fuel with
    | zero =>
      intro k left out e
      rw [List.length_eq_zero_iff.mp e]
      simp [pickOrder.go]
    | succ fuel ih =>
      intro k left out e
      have lt : next k % left.length < left.length := Nat.mod_lt _ (by omega)
      unfold pickOrder.go
      rw [List.getElem?_eq_getElem lt]
      dsimp only
      refine (ih _ _ _ (by rw [List.length_eraseIdx_of_lt lt, e]; rfl)).trans ?_
      rw [Array.toList_push, List.append_assoc]
      refine List.Perm.append_left _ ?_
      exact erase_perm lt
  have := go xs.size 0 xs.toList #[] rfl
  simpa [pickOrder] using this
theorem choose_any {src : Source} {n : Nat} {Q : Nat → Shared → Prop} (hn : 0 < n) (h : ∀ d r, r < n → Q r { s with drawn := d }) : wpAny (model prog w) A (choose src n) Q E s :=
  fun Γ p hΓ => ⟨Nat.ne_of_gt hn, h _ _ (Nat.mod_lt _ hn)⟩
theorem draw_perm {α : Type} : ∀ (n : Nat) (xs : List α) {s : Shared} {Q : List α → Shared → Prop}, xs.length = n → (∀ d ord, ord.Perm xs → Q ord { s with drawn := d }) → wpAny (model prog w) A (drawOrder n xs) Q E s
  | 0, xs, s, Q, e, h => by
    rw [List.length_eq_zero_iff.mp e] at h
    unfold drawOrder
    have : s = { s with drawn := s.drawn } := rfl
    exact wpAny_pure (h s.drawn [] (List.Perm.refl _))
  | n + 1, [], s, Q, e, h => by cases e
  | n + 1, x :: xs, s, Q, e, h => by
    unfold drawOrder
    refine wpAny_bind (choose_any (by rw [e]; omega) fun d r hr => ?_)
    rw [List.getElem?_eq_getElem hr]
    dsimp only
    refine wpAny_bind (draw_perm n _ (by rw [List.length_eraseIdx_of_lt hr, e]; rfl) fun d2 ord pm => ?_)
    refine wpAny_pure (h d2 _ ?_)
    exact (pm.cons _).trans (erase_perm hr)
theorem self_si {I : Addr} {f : Value} {i : Nat} {a : Addr} {n ep : Nat} {Q : Value → Shared → Prop} (hi : s.heap.get? I = some (itOb f i a n ep)) (h : Q (.ref I) s) : wpAny (model prog w) A (pyIter (.ref I)) Q E s := by
  have ty : s.TypeIs (.ref I) "set_iterator" := ⟨_, hi, rfl⟩
  refine wpAny_pyIter_slot ty slot_si_iter (wpAny_call_entry slot_si_iter ty entry_si_iter ?_ (args_si_iter _))
  show wpAny _ _ (ret (.ref I)) _ _ s
  exact wpAny_pure ⟨_, rfl, "set_iterator", _, ty, slot_si_next.lookup, h⟩
theorem walks_text {I a : Addr} {ep : Nat} {es : Array (Int × Value)} {t : SetTable} (hh : A.handled = none) (ne : a ≠ I) (hf : t.fits es.size = true) (hb : w.params.followText "set-order" = true) :
    Walks prog w A I [I, a] [I] es.size (fun i v => ((pickOrder (w.params.setOrder a ep) es).toList.map (·.2))[i]? = some v) (fun i h => h.get? I = some (itOb (.int 0 0) i a es.size ep) ∧ h.get? a = some (setOb es ep t)) where
  sub := fun b hb => by simp at hb; simp [hb]
  frame := fun _ _ _ st hk => ⟨hk I (by simp) _ st.1, hk a (by simp) _ st.2⟩
  item := fun i s Q E lt st hQ => by
    have ez : (pickOrder (w.params.setOrder a ep) es).size = es.size := by rw [← Array.length_toList, (pick_perm _ es).length_eq, Array.length_toList]
    have li : i < (pickOrder (w.params.setOrder a ep) es).size := by rw [ez]; exact lt
    refine next_int (f := 0) (r := some ((pickOrder (w.params.setOrder a ep) es)[i].2, 0)) hh st.1 st.2 hf (fun A E Q q => next_text st.2 hf hb (by rw [Array.getElem?_eq_getElem li]; exact q)) (fun x j e h' e1 sb => ?_) (fun e => nomatch e)
    injection e with e
    injection e with e2 e3
    subst e2 e3
    refine hQ _ h' s.toks ?_ ⟨e1, (sb.2 a ne).trans st.2⟩ fun b o hb e => (sb.2 b (by simpa using hb)).trans e
    rw [List.getElem?_map, Array.getElem?_toList, Array.getElem?_eq_getElem li]; rfl
  done := fun s Q E st hQ => by
    have ez : (pickOrder (w.params.setOrder a ep) es).size = es.size := by rw [← Array.length_toList, (pick_perm _ es).length_eq, Array.length_toList]
    refine next_int (f := 0) (r := none) hh st.1 st.2 hf (fun A E Q q => next_text st.2 hf hb (by rw [Array.getElem?_eq_none (by rw [ez]; exact Nat.le_refl _)]; exact q)) (fun _ _ e => nomatch e) (fun _ h' k => ?_)
    exact hQ h' s.toks fun b o hb e => k b o (by simpa using hb) e
  self := fun _ _ _ _ st hQ => self_si st.1 hQ
theorem walks_draw {I a T : Addr} {ep e1 : Nat} {es : Array (Int × Value)} {t : SetTable} {pl : List Nat} (hh : A.handled = none) (ne : a ≠ I) (nt : T ≠ I) (hf : t.fits es.size = true) (hl : pl.length = es.size) (hp : ∀ j ∈ pl, j < es.size) :
    Walks prog w A I [I, a, T] [I] es.size (fun i v => (pl.map fun j => (es.getD j (0, .none)).2)[i]? = some v) (fun i h => h.get? I = some (itOb (.ref T) i a es.size ep) ∧ h.get? a = some (setOb es ep t) ∧ h.get? T = some (seqObj "tuple" (pl.map fun (i : Nat) => rawInt i).toArray e1)) where
  sub := fun b hb => by simp at hb; simp [hb]
  frame := fun _ _ _ st hk => ⟨hk I (by simp) _ st.1, hk a (by simp) _ st.2.1, hk T (by simp) _ st.2.2⟩
  item := fun i s Q E lt st hQ => by
    have li : i < pl.length := by rw [hl]; exact lt
    have lj : pl[i] < es.size := hp _ (List.getElem_mem li)
    refine next_draw (j := pl[i]) (x := es[pl[i]]) st.1 st.2.1 hf st.2.2 (List.getElem?_eq_getElem li) (Array.getElem?_eq_getElem lj) fun h' e2 sb => ?_
    refine hQ _ h' s.toks ?_ ⟨e2, (sb.2 a ne).trans st.2.1, (sb.2 T nt).trans st.2.2⟩ fun b o hb e => (sb.2 b (by simpa using hb)).trans e
    rw [List.getElem?_map, List.getElem?_eq_getElem li]
    simp [lj]
  done := fun s Q E st hQ => end_draw hh st.1 st.2.1 hf st.2.2 (List.getElem?_eq_none (by rw [hl]; exact Nat.le_refl _)) fun h' k => hQ h' s.toks fun b o hb e => k b o (by simpa using hb) e
  self := fun _ _ _ _ st hQ => self_si st.1 hQ
theorem below_one (j : Nat) : SetTable.below #[j] (j + 1) = 1 := by
  unfold SetTable.below
  simp [SetTable.below.go]
theorem below_one0 (j : Nat) : SetTable.below #[j] 0 = 0 := by
  unfold SetTable.below
  simp [SetTable.below.go]
theorem walks_slot {I a : Addr} {ep : Nat} {es : Array (Int × Value)} {t : SetTable} (hh : A.handled = none) (ne : a ≠ I) (hf : t.fits es.size = true) (hb : w.params.followText "set-order" = false) (hl : t.led = true) (h1 : es.size ≤ 1) :
    Walks prog w A I [I, a] [I] es.size (fun i v => (es.toList.map (·.2))[i]? = some v) (fun i h => h.get? I = some (itOb (.int ((if i = 0 then 0 else t.place.getD 0 0 + 1 : Nat) : Int) 0) i a es.size ep) ∧ h.get? a = some (setOb es ep t)) where
  sub := fun b hb => by simp at hb; simp [hb]
  frame := fun _ _ _ st hk => ⟨hk I (by simp) _ st.1, hk a (by simp) _ st.2⟩
  item := fun i s Q E lt st hQ => by
    obtain rfl : i = 0 := by omega
    have z1 : es.size = 1 := by omega
    have pz : t.place.size = 1 := by
      simp only [SetTable.fits, Bool.and_eq_true, beq_iff_eq] at hf
      rw [hf.1, z1]
    obtain ⟨j, hj⟩ : ∃ j, t.place = #[j] := ⟨t.place[0], by apply Array.ext <;> simp [pz]; intro i hi; have : i = 0 := by omega
                                                            subst this; rfl⟩
    have li : 0 < es.size := by omega
    refine next_int (f := 0) (r := some (es[0].2, j + 1)) hh st.1 st.2 hf (fun A E Q q => next_slot st.2 hf hb hl h1 (by rw [hj, below_one0, Array.getElem?_eq_getElem li]; exact q)) (fun x j' e h' e1 sb => ?_) (fun e => nomatch e)
    injection e with e
    injection e with e2 e3
    subst e2 e3
    refine hQ _ h' s.toks ?_ ⟨?_, (sb.2 a ne).trans st.2⟩ fun b o hb e => (sb.2 b (by simpa using hb)).trans e
    · rw [List.getElem?_map, Array.getElem?_toList, Array.getElem?_eq_getElem li]; rfl
    · rw [e1, hj]; rfl
  done := fun s Q E st hQ => by
    have nx : (match es[SetTable.below t.place (if es.size = 0 then 0 else t.place.getD 0 0 + 1)]?, t.place[SetTable.below t.place (if es.size = 0 then 0 else t.place.getD 0 0 + 1)]? with | some (_, x), some j => some (x, j + 1) | _, _ => (none : Option (Value × Nat))) = none := by
      have hz : t.place.size = es.size := by
        simp only [SetTable.fits, Bool.and_eq_true, beq_iff_eq] at hf
        exact hf.1
      by_cases z : es.size = 0
      · have : es = #[] := Array.size_eq_zero_iff.mp z
        subst this
        simp
      · have z1 : es.size = 1 := by omega
        obtain ⟨j, hj⟩ : ∃ j, t.place = #[j] := ⟨t.place[0], by apply Array.ext <;> simp [hz, z1]; intro i hi; have : i = 0 := by omega
                                                                subst this; rfl⟩
        rw [if_neg z, hj]
        have e4 : (#[j] : Array Nat).getD 0 0 = j := rfl
        rw [e4, below_one, Array.getElem?_eq_none (by rw [z1]; exact Nat.le_refl _)]
    refine next_int (r := none) hh st.1 st.2 hf (fun A E Q q => next_slot st.2 hf hb hl h1 (by rw [nx]; exact q)) (fun _ _ e => nomatch e) (fun _ h' k => ?_)
    exact hQ h' s.toks fun b o hb e => k b o (by simpa using hb) e
  self := fun _ _ _ _ st hQ => self_si st.1 hQ
theorem iter_set {a : Addr} {es : Array (Int × Value)} {Q : Value → Shared → Prop} (hh : A.handled = none) (hS : SetX prog w s.heap a es)
    (hQ : ∀ (I : Addr) (h1 : Heap) (d : Drawn) (ord : List Value) (fp : List Addr) (St : Nat → Heap → Prop), ord.Perm (es.toList.map (·.2)) → Walks prog w A I fp [I] es.size (fun i v => ord[i]? = some v) St → St 0 h1 → s.heap.objs.size ≤ I → (∀ b ∈ fp, b = a ∨ s.heap.objs.size ≤ b) →
      (∀ b ∈ fp, b < h1.objs.size) → (∀ b o, s.heap.get? b = some o → h1.get? b = some o) → Q (.ref I) { s with heap := h1, drawn := d }) :
    wpAny (model prog w) A (pyIter (.ref a)) Q E s := by
  obtain ⟨ep, t, ho, hel, hbd, hf, hled, hpl⟩ := id hS
  have ty : s.TypeIs (.ref a) "set" := ⟨_, ho, rfl⟩
  have la : a < s.heap.objs.size := Heap.lt_size ho
  refine wpAny_pyIter_slot ty PySem.F.slot_set_iter (wpAny_call_entry PySem.F.slot_set_iter ty entry_set_iter ?_ (PySem.F.args_set_iter_1 _))
  unfold Builtin.«frozenset.__iter__» Builtin.Frozenset.slot0 Builtin.Frozenset.sizeOf
  refine wpAny_bind (wpAny_bind (m := slotArgs "__iter__" 0 _) (wpAny_pure (wpAny_pure ?_)))
  refine wpAny_bind (wpAny_bind (wpAny_setEntries_of ho rfl hf (wpAny_pure ?_)))
  unfold setDrawn
  refine wpAny_bind (wpAny_bind (wpAny_setState_of ho rfl hf ?_))
  dsimp only
  refine wpAny_bind (byText_eq (wpAny_pure ?_))
  have szl : es.size ≤ sizeLine := fits_of_scanBound hbd
  refine wpAny_ite_split (fun hd => ?_) (fun hd => ?_)
  · refine wpAny_bind (draw_perm es.size (List.range es.size) (by simp) fun d pl pm => ?_)
    have pl_len : pl.length = es.size := by rw [pm.length_eq, List.length_range]
    refine wpAny_bind (wpAny_newTuple ?_ (by rw [List.length_map, pl_len]; exact szl))
    have ho2 : (s.heap.push (seqObj "tuple" (pl.map fun (i : Nat) => rawInt i).toArray 0)).get? a = some (setOb es ep t) := Heap.get?_push_of_some _ ho
    refine wpAny_bind (wpAny_setEpoch_of ho2 rfl hf ?_)
    refine wpAny_bind (wpAny_newObj_type (wpAny_pure ⟨_, rfl, "set_iterator", _, ⟨_, Heap.get?_push_size _ rfl, rfl⟩, slot_si_next.lookup, hQ _ _ d _ _ _ ?pm (walks_draw (a := a) (T := s.heap.objs.size) (t := t) (ep := ep) (e1 := 0) (pl := pl) hh ?ne ?nt hf pl_len fun j hj => List.mem_range.mp (pm.mem_iff.mp hj)) ?st ?ge ?fp ?lt ?kp⟩))
    case pm =>
      refine (pm.map _).trans ?_
      rw [show (List.range es.size).map (fun j => (es.getD j (0, Value.none)).2) = es.toList.map (·.2) from ?_]
      apply List.ext_getElem
      · simp
      · intro i h1 h2
        have hi : i < es.size := by simpa using h1
        simp [hi]
    case ne => show a ≠ (s.heap.push _).objs.size; rw [Heap.size_push]; exact Nat.ne_of_lt (Nat.lt_succ_of_lt la)
    case nt => show s.heap.objs.size ≠ (s.heap.push _).objs.size; rw [Heap.size_push]; exact Nat.ne_of_lt (Nat.lt_succ_self _)
    case st => exact ⟨Heap.get?_push_size _ rfl, Heap.get?_push_of_some _ ho2, Heap.get?_push_of_some _ (Heap.get?_push_size _ rfl)⟩
    case ge => show s.heap.objs.size ≤ (s.heap.push _).objs.size; rw [Heap.size_push]; exact Nat.le_succ _
    case fp =>
      intro b hb
      simp only [List.mem_cons, List.not_mem_nil, or_false] at hb
      rcases hb with rfl | rfl | rfl
      · right; show s.heap.objs.size ≤ (s.heap.push _).objs.size; rw [Heap.size_push]; exact Nat.le_succ _
      · exact .inl rfl
      · exact .inr (Nat.le_refl _)
    case lt =>
      intro b hb
      simp only [List.mem_cons, List.not_mem_nil, or_false] at hb
      rw [Heap.size_push]
      rcases hb with rfl | rfl | rfl
      · exact Nat.lt_succ_self _
      · rw [Heap.size_push]; exact Nat.lt_succ_of_lt (Nat.lt_succ_of_lt la)
      · rw [Heap.size_push]; exact Nat.lt_succ_of_lt (Nat.lt_succ_self _)
    case kp => exact fun b o e => Heap.get?_push_of_some _ (Heap.get?_push_of_some _ e)
  · refine wpAny_bind (wpAny_pure ?_)
    refine wpAny_bind (wpAny_setEpoch_of ho rfl hf ?_)
    refine wpAny_bind (wpAny_newObj_type (wpAny_pure ⟨_, rfl, "set_iterator", _, ⟨_, Heap.get?_push_size _ rfl, rfl⟩, slot_si_next.lookup, ?_⟩))
    have ne : a ≠ s.heap.objs.size := Nat.ne_of_lt la
    have fpo : ∀ b ∈ [s.heap.objs.size, a], b = a ∨ s.heap.objs.size ≤ b := fun b hb => by
      simp only [List.mem_cons, List.not_mem_nil, or_false] at hb
      rcases hb with rfl | rfl
      · exact .inr (Nat.le_refl _)
      · exact .inl rfl
    have flt : ∀ (o : Obj), ∀ b ∈ [s.heap.objs.size, a], b < (s.heap.push o).objs.size := fun o b hb => by
      simp only [List.mem_cons, List.not_mem_nil, or_false] at hb
      rw [Heap.size_push]
      rcases hb with rfl | rfl
      · exact Nat.lt_succ_self _
      · exact Nat.lt_succ_of_lt la
    by_cases hb : w.params.followText "set-order" = true
    · exact hQ _ _ s.drawn _ _ _ ((pick_perm _ es).map _) (walks_text (a := a) (ep := ep) (t := t) hh ne hf hb) ⟨Heap.get?_push_size _ rfl, Heap.get?_push_of_some _ ho⟩ (Nat.le_refl _) fpo (flt _) fun b o e => Heap.get?_push_of_some _ e
    · have hb' : w.params.followText "set-order" = false := by simpa using hb
      have h1 : es.size ≤ 1 := by
        have hd' : ¬ (!w.params.followText "set-order" && (!t.plain && decide (es.size > 1))) = true := hd
        rw [hb'] at hd'
        rcases hpl with z | z
        · omega
        · rw [z] at hd'
          simpa using hd'
      have hl : t.led = true := by rw [hled, hb']; rfl
      exact hQ _ _ s.drawn _ _ _ (List.Perm.refl _) (walks_slot (a := a) (ep := ep) (t := t) hh ne hf hb' hl h1) ⟨Heap.get?_push_size _ rfl, Heap.get?_push_of_some _ ho⟩ (Nat.le_refl _) fpo (flt _) fun b o e => Heap.get?_push_of_some _ e
end
end L2
end
section
set_option Elab.async false
set_option linter.all false
set_option maxRecDepth 100000
set_option maxHeartbeats 4000000
namespace L2
open PySem PySem.Spec PyProof.Rows
section
variable {prog : Program} {w : World} {A : Around} {E : Value → Shared → Prop} {s : Shared}
theorem len_set : typeLookup (.type "set") "__len__" = pure (some (.builtin "set.__len__")) := by rw [typeLookup_type, builtinLookup_eq_fast]; kernel_rfl
theorem hint_set {r : Addr} {Q : Bool → Shared → Prop} (hT : s.TypeIs (.ref r) "set") (h : Q false s) : wpAny (model prog w) A (Builtin.List.listLengthHint (.ref r)) Q E s := by
  unfold Builtin.List.listLengthHint
  refine wpAny_bind (wpAny_specialOf hT len_set ?_)
  generalize hid : ("set.__len__" : String) = id0
  wp_delta
  rw [show splitId id0 = some ("set", "__len__") from by subst hid; decide +kernel]
  subst hid
  refine wpAny_bind (wpAny_isInstance (T := "set") (b := true) hT (by rw [isSubtype_type]; kernel_rfl) ?_)
  refine wpAny_ite_split (fun hab => absurd hab (by decide)) (fun _ => ?_)
  refine wpAny_ite_split (fun _ => ?_) (fun hab => absurd (by decide +kernel) hab)
  refine wpAny_bind (wpAny_typeOf hT ?_)
  exact wpAny_pure h
theorem collect_set {a : Addr} {es : Array (Int × Value)} {R : List Value → Shared → Prop} (hh : A.handled = none) (hS : SetX prog w s.heap a es)
    (h : ∀ h' tk d ord, ord.Perm (es.toList.map (·.2)) → (∀ b o, s.heap.get? b = some o → h'.get? b = some o) → R ord { s with heap := h', toks := tk, drawn := d }) :
    wpAny (model prog w) A (collect (.ref a)) R E s := by
  obtain ⟨ep, t, ho, hel, hbd, hf, hled, hpl⟩ := id hS
  have la : a < s.heap.objs.size := Heap.lt_size ho
  unfold collect
  refine wpAny_bind (wpAny_runValue (codeAny_builtin PySem.F.entry_proto_collect ?_))
  rw [Around.under_plainId PySem.F.plain_proto_collect _]
  show wpAny _ A.in1 (newList [] >>= fun l => again (.builtin "list.__iadd__" ⟨[l, .ref a], []⟩)) _ _ s
  refine wpAny_bind (wpAny_newObj_type ?_)
  refine wpAny_pure ⟨plainId_quiet PySem.F.plain_list_iadd _, codeAny_builtin PySem.F.entry_list_iadd ?_⟩
  rw [Around.under_plainId PySem.F.plain_list_iadd _]
  show wpAny _ A.in1 (Builtin.List.listExtendWith (.ref s.heap.objs.size) (.ref a) (.ref s.heap.objs.size)) _ _ _
  have ho1 : (s.heap.push { cls := .type "list", data := .seq ([] : List Value).toArray }).get? a = some (setOb es ep t) := Heap.get?_push_of_some _ ho
  have hS1 : SetX prog w (s.heap.push { cls := .type "list", data := .seq ([] : List Value).toArray }) a es := ⟨ep, t, ho1, hel, hbd, hf, hled, hpl⟩
  have hL : (s.heap.push { cls := .type "list", data := .seq ([] : List Value).toArray }).get? s.heap.objs.size = some { cls := .type "list", data := .seq #[] } := Heap.get?_push_size _ rfl
  unfold Builtin.List.listExtendWith
  refine wpAny_bind (wpAny_typeOf (T := "set") ⟨_, ho1, rfl⟩ ?_)
  have ne : s.heap.objs.size ≠ a := Nat.ne_of_gt la
  have q1 : Builtin.List.listSameRef (.ref s.heap.objs.size) (.ref a) = false := by simp [Builtin.List.listSameRef, ne]
  rw [if_neg (by rw [q1]; decide)]
  refine wpAny_bind (iter_set (A := A.in1) (s := { s with heap := s.heap.push { cls := .type "list", data := .seq ([] : List Value).toArray } }) hh hS1 fun I h1 d ord fp St pm W st ge fpo flt kp => ?_)
  dsimp only at ge fpo kp
  rw [Heap.size_push] at ge fpo
  have nf : s.heap.objs.size ∉ fp := fun z => by
    rcases fpo _ z with e | e
    · exact ne e
    · exact Nat.lt_irrefl _ e
  have hn : es.size ≤ sizeLine := fits_of_scanBound hbd
  have ol : ord.length = es.size := by rw [pm.length_eq, List.length_map, Array.length_toList]
  have key : ∀ (g : Heap) (c₁ : Nat), St 0 g → (∀ b o, b ≠ s.heap.objs.size → h1.get? b = some o → g.get? b = some o) → g.get? s.heap.objs.size = some { cls := .type "list", data := .seq #[] c₁ } →
      codeAny (model prog w) A (.builtin "list.extend.loop" ⟨[.ref s.heap.objs.size, .ref I, .ref s.heap.objs.size], []⟩) (fun q s' => ∃ (h' : Heap) (tk : Nat) (acc : Array Value) (c' : Nat), q = .ok (.ret (.ref s.heap.objs.size)) ∧ s' = { s with heap := h', toks := tk, drawn := d } ∧
        (∀ b o, s.heap.get? b = some o → h'.get? b = some o) ∧ h'.get? s.heap.objs.size = some { cls := .type "list", dict := none, data := .seq acc c', slots := #[] } ∧ acc.toList = ord) { s with heap := g, drawn := d } := by
    intro g c₁ hst hk hg
    refine codeAny_extend_loopS W.toS hn _ nf _ es.size 0 _ #[] c₁ rfl (Nat.zero_le _) hst hg (ItemsOf.nil _) fun s' acc' c' hm hS' hacc => ?_
    have e1 : acc'.toList = ord := by
      apply List.ext_getElem
      · rw [Array.length_toList, hacc.1, ol]
      · intro i i1 i2
        have : ord[i]? = some (acc'[i]'(by simpa using i1)) := hacc.2 i _ (Array.getElem?_eq_getElem (by simpa using i1))
        rw [List.getElem?_eq_getElem i2] at this
        injection this with this
        simpa using this.symm
    refine ⟨s'.heap, s'.toks, acc', c', rfl, Moved.eq_with hm, fun b o e => ?_, hS', e1⟩
    have nb : b ≠ s.heap.objs.size := Nat.ne_of_lt (Heap.lt_size e)
    refine hm.heap b o (fun z => ?_) (hk b o nb (kp b o (Heap.get?_push_of_some _ e)))
    rcases List.mem_cons.mp z with e' | z
    · exact nb e'
    · rw [List.mem_singleton.mp z] at e
      exact absurd (Heap.lt_size e) (Nat.not_lt.mpr (Nat.le_of_succ_le ge))
  have fin : ∀ (q : Result) (s' : Shared), (∃ (h' : Heap) (tk : Nat) (acc : Array Value) (c' : Nat), q = .ok (.ret (.ref s.heap.objs.size)) ∧ s' = { s with heap := h', toks := tk, drawn := d } ∧
        (∀ b o, s.heap.get? b = some o → h'.get? b = some o) ∧ h'.get? s.heap.objs.size = some { cls := .type "list", dict := none, data := .seq acc c', slots := #[] } ∧ acc.toList = ord) →
      q = .ok (.ret (.ref s.heap.objs.size)) ∧ wpAny (model prog w) A (load s.heap.objs.size >>= fun o => match o.data with | .seq xs _ => pure xs.toList | _ => unsupported "internal:collect") R E s' := by
    rintro q s' ⟨h', tk, acc, c', rfl, rfl, kk, hg, e1⟩
    refine ⟨rfl, wpAny_bind (wpAny_load hg ?_)⟩
    show wpAny _ _ (pure acc.toList) _ _ _
    rw [e1]
    exact wpAny_pure (h h' tk d ord pm kk)
  have hL1 := kp _ _ hL
  have hoa := kp _ _ ho1
  refine wpAny_bind (wpAny_holding (hint_set (s := { s with heap := h1, drawn := d }) ⟨_, hoa, rfl⟩ ?_))
  refine wpAny_ite_split (fun _ => ?_) (fun _ => wpAny_pure ⟨plainId_quiet PySem.F.plain_extend_loop _, codeAny_mono (key h1 _ st (fun b o _ e => e) hL1) fun q s' y => ?_⟩)
  · refine wpAny_bind (wpAny_rule ?_)
    refine wpAny_bind ?_
    show wpAny _ _ (updateSeq s.heap.objs.size (·.push .none) >>= fun _ => updateSeq s.heap.objs.size (·.pop)) _ _ _
    refine wpAny_bind (wpAny_updateSeq hL1 rfl ?_)
    have hL2 := Heap.get?_update_self (Obj.mapSeq (·.push Value.none)) hL1 rfl
    refine wpAny_updateSeq (hz := by seq_fits) hL2 rfl ?_
    have hL3 := Heap.get?_update_self (Obj.mapSeq (·.pop)) hL2 rfl
    refine wpAny_pure ⟨plainId_quiet PySem.F.plain_extend_loop _, codeAny_mono (key _ _ ?_ (fun b o hb e => ?_) hL3) fun q s' y => ?_⟩
    · refine W.frame 0 _ _ st fun b hb o e => ?_
      have hbS : b ≠ s.heap.objs.size := fun z => nf (z ▸ hb)
      exact (Heap.get?_update_other _ _ (Ne.symm hbS)).trans ((Heap.get?_update_other _ _ (Ne.symm hbS)).trans e)
    · exact (Heap.get?_update_other _ _ (Ne.symm hb)).trans ((Heap.get?_update_other _ _ (Ne.symm hb)).trans e)
    · obtain ⟨rfl, y2⟩ := fin q s' y
      exact y2
  · obtain ⟨rfl, y2⟩ := fin q s' y
    exact y2
end
section
open MyS PySem.W
variable {X : Cx} {pins : List (Addr × Obj)} {σ : List (Option V)} {H : Hp} {s : Shared}
theorem Inv.draw {h' : Heap} {tk : Nat} {d : Drawn} (I : Inv X pins σ H { s with heap := h', toks := tk }) : Inv X pins σ H { s with heap := h', toks := tk, drawn := d } :=
  ⟨I.ok, I.os, I.bare, I.base, I.loc, I.cell, I.free, I.freeC, I.pin, I.hok, I.len⟩
theorem Inv.grown {h' : Heap} {tk : Nat} (I : Inv X pins σ H s) (k : ∀ b u, s.heap.get? b = some u → h'.get? b = some u) : Inv X pins σ H { s with heap := h', toks := tk } :=
  I.un (Un.kept k) (I.hok.kept k)
theorem sorted_set (hc : X.calm = true) {a : Addr} {ks : List Str} {Q : VK} (I : Inv X pins σ H s) (hS : SetK X.prog X.w s.heap a ks) (h64 : ks.length < 64)
    (q : ∀ (out : List Str) (l : Addr), (∀ x, x ∈ out ↔ x ∈ ks) → out.Pairwise (fun a b => a.cps.toList < b.cps.toList) → H l = none → Q (.ref l) (upd H l (.lst (out.map V.str)))) :
    wpAny (model X.prog X.w) X.A (call (.builtin "sorted") [.ref a]) (EP X pins σ Q) X.xe s := by
  obtain ⟨es, sx, nd, mem, sz⟩ := hS
  refine Calls.call_function_entry kind_sorted plain_sorted entry_sorted (args_sorted1 _) ?_
  unfold Builtin.«sorted»
  refine wpAny_bind (m := checkCount "sorted" 1 1 _) (wpAny_pure ?_)
  refine wpAny_bind (collect_set (A := X.A.in1) (I.ok.hd hc) sx fun h' tk d ord pm hk => ?_)
  have I1 : Inv X pins σ H { s with heap := h', toks := tk, drawn := d } := (I.grown hk).draw
  obtain ⟨ep, t, ho, hel, _⟩ := sx
  have hstr : ∀ v ∈ ord, ∃ x u, v = Value.str x u := fun v hv => by
    obtain ⟨e, he, rfl⟩ := List.mem_map.mp (pm.mem_iff.mp hv)
    obtain ⟨⟨k, hk', _⟩, _⟩ := hel e he
    obtain ⟨u, e2⟩ := Value.isStrOf_shape hk'
    exact ⟨k, u, e2⟩
  have hS : StrsAre ord (ord.map txt) := by
    have go : ∀ l : List Value, (∀ v ∈ l, ∃ x u, v = Value.str x u) → StrsAre l (l.map txt) := by
      intro l
      induction l with
      | nil => intro _; exact .nil
      | cons v l ih =>
        intro hl
        obtain ⟨x, u, rfl⟩ := hl v (List.mem_cons_self ..)
        exact .cons _ _ (ih fun v hv => hl v (List.mem_cons_of_mem _ hv))
    exact go ord hstr
  have pt : (ord.map txt).Perm (txts es) := by
    have := pm.map txt
    rw [List.map_map] at this
    exact this
  have hnd : (ord.map txt).Nodup := pt.nodup_iff.mpr nd
  have ol : ord.length = es.size := by rw [pm.length_eq, List.length_map, Array.length_toList]
  have h64' : ord.length < 64 := by omega
  refine wpAny_bind (wpAny_newList ?_ (by rw [sizeLine_eq]; omega))
  dsimp only
  generalize hB : h'.objs.size = B
  have hoL : (h'.push { cls := .type "list", data := .seq ord.toArray }).get? B = some (seqObj "list" ord.toArray 0) := by
    rw [← hB]; exact Heap.get?_push_size _ rfl
  have old : ∀ b o, h'.get? b = some o → (h'.push { cls := .type "list", data := .seq ord.toArray }).get? b = some o ∧ b ≠ B := fun b o e => ⟨Heap.get?_push_of_some _ e, by rw [← hB]; exact Nat.ne_of_lt (Heap.lt_size e)⟩
  refine wpAny_bind (wpAny_holding (wpAny_call_entry slot_list_sort ⟨_, hoL, rfl⟩ entry_list_sort (sort_strs (ks := ord.map txt) hoL hS hnd h64' fun p h2 e2 hp1 hp2 hk2 ho2 => ⟨_, rfl, ?_⟩) (args_list_sort _)))
  refine wpAny_pure ⟨_, rfl, ?_⟩
  have hold : ∀ b o, h'.get? b = some o → h2.get? b = some o := fun b o e => hk2 b o (old _ _ e).2 (old _ _ e).1
  refine ⟨.ref B, _, I1.laid (t' := tk) (o := .lst ((p.map fun i => (ord.map txt).getD i ⟨#[]⟩).map V.str)) hold (Nat.le_of_eq hB) ⟨?_, _, _, ?_, ho2⟩, rfl, q _ B ?_ ?_ (I1.hok.fresh (Nat.le_of_eq hB))⟩
  · rw [List.length_map, List.length_map, hp1.length_eq, List.length_range, sizeLine_eq]; omega
  · have go : ∀ l : List Nat, (∀ i ∈ l, i < ord.length) → Vals ((l.map fun i => (ord.map txt).getD i ⟨#[]⟩).map V.str) (l.map fun i => ord.getD i Value.none) := by
      intro l
      induction l with
      | nil => intro _; exact .nil
      | cons i l ih =>
        intro hl'
        have hi : i < ord.length := hl' i (List.mem_cons_self ..)
        refine .cons ?_ (ih fun j hj => hl' j (List.mem_cons_of_mem _ hj))
        obtain ⟨x, u, e⟩ := hstr ord[i] (List.getElem_mem hi)
        have a1 : ord.getD i Value.none = Value.str x u := by simp [hi, e]
        have a2 : (ord.map txt).getD i ⟨#[]⟩ = x := by simp [hi, e, txt]
        show RelV (V.str ((ord.map txt).getD i ⟨#[]⟩)) (ord.getD i Value.none)
        rw [a1, a2]
        exact ⟨_, rfl⟩
    exact go p fun i hi => List.mem_range.mp (hp1.mem_iff.mp hi)
  · intro x
    have e1 : (List.range ord.length).map (fun i => (ord.map txt).getD i (⟨#[]⟩ : Str)) = ord.map txt := by
      apply List.ext_getElem
      · simp
      · intro i h1 h2
        have hi : i < ord.length := by simpa using h1
        simp [hi]
    have p2 := hp1.map (fun i => (ord.map txt).getD i (⟨#[]⟩ : Str))
    rw [e1] at p2
    rw [p2.mem_iff, pt.mem_iff]
    exact mem x
  · rw [List.pairwise_map]
    rw [List.pairwise_map] at hp2
    exact hp2
def rSSet (K : PySem.W.Frag) (x : V) (H : Hp) (Q : VK) : Prop := ∃ (p : Addr) (ks : List Str), x = .ref p ∧ SqT K H p (ks.map V.str) ∧ ks.length < 64 ∧
  ∀ (out : List Str) (l : Addr), (∀ x, x ∈ out ↔ x ∈ ks) → out.Pairwise (fun a b => a.cps.toList < b.cps.toList) → H l = none → Q (.ref l) (upd H l (.lst (out.map V.str)))
def tSSet (K : PySem.W.Frag) (t : TE) : TE := fun σ H Q => t σ H fun x H1 => rSSet K x H1 Q
theorem pe_sset {x y : Str} {e : Expr} {te : TE} {p p2 pos pos2 : Pos} (hc : X.calm = true) (he : PE X e te) (hg : Gl X x) (hm : X.mg x = none) (hv : bootBuiltins x = some (.builtin "sorted")) (hg2 : Gl X y) (hm2 : X.mg y = none) (hv2 : bootBuiltins y = some (.type "set"))
    (hn : x ≠ "__name__" := by decide) (hdb : (x == ("__debug__" : Str)) = false := by decide) (hn2 : y ≠ "__name__" := by decide) (hdb2 : (y == ("__debug__" : Str)) = false := by decide)
    (hs : starEach [e] X.env = (false, eval e X.env) :: starEach [] X.env := by rfl)
    (hs2 : starEach [Expr.Call (.Name y p2) [e] [] pos2] X.env = (false, eval (Expr.Call (.Name y p2) [e] [] pos2) X.env) :: starEach [] X.env := by rfl) :
    PE X (.Call (.Name x p) [.Call (.Name y p2) [e] [] pos2] [] pos) (tSSet X.K te) := by
  intro pins s σ H Q I h
  refine wpAny_Call_Name_kw (ld_blt I hg hm hv ?_ hn hdb)
  refine PyProof.Rows.callWith_builtin1 ?_ hs2 rfl
  rw [hs2]
  show wpAny _ _ (spliced ((false, eval (Expr.Call (.Name y p2) [e] [] pos2) X.env) :: backTo pos (starEach [] X.env))) _ _ s
  refine Calls.spliced_cons ?_
  refine wpAny_Call_Name_kw (ld_blt I hg2 hm2 hv2 ?_ hn2 hdb2)
  refine PyProof.Rows.callWith_type1 (thn (pa_cons he pa_nil hs pos2 pins s σ H (fun xs H1 => match xs with | [x] => rSSet X.K x H1 Q | _ => False) I ?_) fun us s1 ⟨vs, H1, I1, r1, q1⟩ => ?_) hs rfl
  · exact h
  · obtain ⟨x, rfl, q1⟩ : ∃ x, vs = [x] ∧ rSSet X.K x H1 Q := by
      match vs, q1 with
      | [x], q1 => exact ⟨x, rfl, q1⟩
      | [], q1 => exact q1.elim
      | _ :: _ :: _, q1 => exact q1.elim
    obtain ⟨a, ks, rfl, hsq, h64, q⟩ := q1
    obtain ⟨u, rfl, ru⟩ := vals1 r1
    cases ru
    obtain ⟨its, rv, tp, _⟩ := I1.tuple hsq
    have hlen : its.toArray.size = ks.length := by have := rv.length; simp at this; simp [this]
    refine call_setK (A := X.A) (I.ok.hd hc) tp hlen (fun i v hv => ?_) (by unfold scanBound; omega) fun h' tk sk k => ?_
    · have hi : i < ks.length := by
        rw [← hlen]
        exact (Array.getElem?_eq_some_iff.mp hv).1
      obtain ⟨u, e1, e2⟩ := rv.get (i := i) (x := .str (ks.getD i ⟨#[]⟩)) (by rw [List.getElem?_map]; simp [hi])
      have e3 : its[i]? = some v := by simpa using hv
      rw [e1] at e3
      injection e3 with e3
      subst e3
      obtain ⟨t, rfl⟩ := e2
      simp [Value.isStrOf]
    · refine Calls.spliced_nil ?_
      exact sorted_set hc (I1.grown (tk := tk) fun b u e => k b u (Heap.lt_size e) e) sk h64 q
end
end L2
end
section
set_option Elab.async false
set_option linter.all false
set_option maxRecDepth 100000
set_option maxHeartbeats 1000000
namespace L2
open PySem PySem.Spec PyProof.Rows
theorem meets_zip_tt (l1 l2 : Addr) (xs ys : Array Value) :
    Meets (Builtin.«zip.__new__» ⟨[.type "zip", .ref l1, .ref l2], []⟩) (fun _ R s => s.heap.IsTuple l1 xs ∧ s.heap.IsTuple l2 ys ∧
      R (.ok (.ret (.ref (s.heap.objs.size + 4)))) { s with heap := ((((s.heap.push { cls := .type "tuple_iterator", data := .fields #[.ref l1, .int 0 0] }).push { cls := .type "tuple_iterator", data := .fields #[.ref l2, .int 0 0] }).push { cls := .type "tuple", data := .seq #[.ref s.heap.objs.size, .ref (s.heap.objs.size + 1)] }).push { cls := .type "tuple", data := .seq #[.none, .none] }).push { cls := .type "zip", data := .fields #[.none, .bool false, .bool false, .ref (s.heap.objs.size + 2), .ref (s.heap.objs.size + 3)] } }) :=
  .of_wp fun prog w A R s h => by
    obtain ⟨hp, g, d, tk, os⟩ := s; obtain ⟨hl1, hl2, h⟩ := h
    have hsub := sub_zip
    have hL1 : Heap.IsTuple (Shared.heap ⟨hp, g, d, tk, os⟩) l1 xs := hl1
    have hL2 : Heap.IsTuple (Shared.heap ⟨hp.push { cls := .type "tuple_iterator", data := .fields #[.ref l1, .int 0 0] }, g, d, tk, os⟩) l2 ys := Heap.IsTuple.push hl2 _
    wp_walk using wpAny_pyIter_tuple hL1, wpAny_pyIter_tuple hL2
    refine ⟨_, rfl, ?_⟩
    simp only [Heap.size_push] at *
    exact h
section
variable {prog : Program} {w : World} {A : Around} {E : Value → Shared → Prop} {s : Shared}
theorem call_zip_tt {l1 l2 : Addr} {xs ys : Array Value} {Q : Value → Shared → Prop} (hl1 : s.heap.IsTuple l1 xs) (hl2 : s.heap.IsTuple l2 ys)
    (h : ∀ h', IsZip h' (s.heap.objs.size + 4) (s.heap.objs.size + 2) (s.heap.objs.size + 3) .none → IsPair h' (s.heap.objs.size + 2) (.ref s.heap.objs.size) (.ref (s.heap.objs.size + 1)) →
      IsPair h' (s.heap.objs.size + 3) .none .none → h'.IsTupleIter s.heap.objs.size l1 0 → h'.IsTupleIter (s.heap.objs.size + 1) l2 0 →
      (∀ c o, s.heap.get? c = some o → h'.get? c = some o) → Q (.ref (s.heap.objs.size + 4)) { s with heap := h' }) :
    wpAny (model prog w) A (call (.type "zip") [.ref l1, .ref l2]) Q E s := by
  refine callType_new F.called_zip (by decide) (F.typeCall_zip_2 _ _) (F.newCall_zip_2 _ _) (fun obj => F.args_object_init_3 obj _ _) F.entry_zip_new (meets_zip_tt l1 l2 xs ys) ⟨hl1, hl2, ?_⟩
  have g5 : ∀ (h : Heap) (o : Obj) (n : Nat), h.objs.size = n → o.isFreed = false → (h.push o).get? n = some o := fun h o n e f => by subst e; exact Heap.get?_push_size _ f
  have z1 : ∀ (h : Heap) (o : Obj) (n : Nat), h.objs.size = n → (h.push o).objs.size = n + 1 := fun h o n e => by rw [Heap.size_push, e]
  have y1 := z1 s.heap { cls := .type "tuple_iterator", data := .fields #[.ref l1, .int 0 0] } _ rfl
  have y2 := z1 _ { cls := .type "tuple_iterator", data := .fields #[.ref l2, .int 0 0] } _ y1
  have y3 := z1 _ { cls := .type "tuple", data := .seq #[.ref s.heap.objs.size, .ref (s.heap.objs.size + 1)] } _ y2
  have y4 := z1 _ { cls := .type "tuple", data := .seq #[.none, .none] } _ y3
  have e5 := g5 _ { cls := .type "zip", data := .fields #[.none, .bool false, .bool false, .ref (s.heap.objs.size + 2), .ref (s.heap.objs.size + 3)] } _ y4 rfl
  show _ ∧ _
  exact ⟨⟨_, e5, rfl⟩, h _ e5 (Heap.get?_push_of_some _ (Heap.get?_push_of_some _ (g5 _ _ _ y2 rfl))) (Heap.get?_push_of_some _ (g5 _ _ _ y3 rfl))
    ⟨_, Heap.get?_push_of_some _ (Heap.get?_push_of_some _ (Heap.get?_push_of_some _ (Heap.get?_push_of_some _ (g5 _ _ _ rfl rfl)))), rfl, rfl⟩
    ⟨_, Heap.get?_push_of_some _ (Heap.get?_push_of_some _ (Heap.get?_push_of_some _ (g5 _ _ _ y1 rfl))), rfl, rfl⟩
    fun c o x => Heap.get?_push_of_some _ (Heap.get?_push_of_some _ (Heap.get?_push_of_some _ (Heap.get?_push_of_some _ (Heap.get?_push_of_some _ x))))⟩
end
def Itzz (K : PySem.W.Frag) (a b : Addr) : It :=
  ⟨fun i H => ∃ xs ys x y, SqT K H a xs ∧ SqT K H b ys ∧ xs[i]? = some x ∧ ys[i]? = some y,
   fun i H x H' => ∃ T x1 y1, x = .ref T ∧ H T = none ∧ H' = upd H T (.tup [x1, y1]) ∧ (∀ xs, SqT K H a xs → xs[i]? = some x1) ∧ (∀ ys, SqT K H b ys → ys[i]? = some y1),
   fun i H => ∃ xs ys, SqT K H a xs ∧ SqT K H b ys ∧ (i = xs.length ∨ i < xs.length ∧ i = ys.length)⟩
structure Znt (n a b : Nat) (i : Nat) (h : Heap) : Prop where
  zz : IsZip h (n + 4) (n + 2) (n + 3) .none
  ti : IsPair h (n + 2) (.ref n) (.ref (n + 1))
  to : ∃ u v, IsPair h (n + 3) u v
  i1 : h.IsTupleIter n a i
  i2 : ItB true h (n + 1) b i
theorem turn_zipT {P : Program} {w : World} {K : PySem.W.Frag} {elts : List Expr} {kk : Nat} {pos : Pos} {n a b : Nat} (ha : a < n) (hb : b < n) : Turn P w K (.Tuple elts kk pos) (Itzz K a b) [n + 4, n + 2, n + 3, n, n + 1] (n + 4) (Znt n a b) where
  mem := by simp
  obj := fun i h st c hc => by
    have hc' : c = n + 4 ∨ c = n + 2 ∨ c = n + 3 ∨ c = n ∨ c = n + 1 := by simpa using hc
    rcases hc' with z | z | z | z | z
    · rw [z]; exact ⟨_, st.zz, fun v z => by cases z⟩
    · rw [z]; exact ⟨_, st.ti, fun v z => by cases z⟩
    · rw [z]; obtain ⟨u, v, e⟩ := st.to; exact ⟨_, e, fun v z => by cases z⟩
    · rw [z]; obtain ⟨o, e, c, d⟩ := st.i1; exact ⟨o, e, fun v z => by rw [d] at z; cases z⟩
    · rw [z]; exact st.i2.obj
  keep := fun i h h' st k => ⟨k _ (by simp) _ st.zz, k _ (by simp) _ st.ti, let ⟨u, v, e⟩ := st.to; ⟨u, v, k _ (by simp) _ e⟩, st.i1.at fun o e => k _ (by simp) o e, st.i2.keep fun o e => k _ (by simp) o e⟩
  item := by
    intro X hP hw hK hc i pins s σ H E I hf st hg
    subst hP hw hK
    obtain ⟨xs, ys, x, y, hq1, hq2, hx, hy⟩ := hg
    obtain ⟨its, rv, p, hz⟩ := I.tuple hq1
    obtain ⟨u, hu, ru⟩ := rv.get hx
    obtain ⟨jts, T2, rv2, D2, to2, of2⟩ := draws2 (tp := true) I hc hq2 (ad_lt 1 hb)
    obtain ⟨v, hv, rw2⟩ := rv2.get hy
    have D1 := drawsTup (prog := X.prog) (w := X.w) (A := X.A.in1) (show X.A.in1.handled = none from I.ok.hd hc) n a (ad_lt 0 ha) its.toArray
    obtain ⟨t0, t00, hTO⟩ := st.to
    have l1 : i < its.toArray.size := by have := (List.getElem?_eq_some_iff.mp hu).1; simpa using this
    have l2 : i < jts.length := (List.getElem?_eq_some_iff.mp hv).1
    refine pyNext_zipD_item D1 D2 (side_new ha hb) st.zz st.ti hTO ⟨st.i1, p⟩ (to2 _ st.i2) l1 l2 fun x' y' h' tk px py a1 a2 a3 a4 a5 a6 hk => ?_
    have hx' : x' = u := by
      have : its[i]? = some x' := by simpa using px
      rw [hu] at this; exact (Option.some.inj this).symm
    have hy' : y' = v := by
      have : jts[i]? = some y' := py
      rw [hv] at this; exact (Option.some.inj this).symm
    subst hx' hy'
    refine ⟨_, rfl, wpAny_letOwnedTupleGo_zip a1 fun h2 hz2 hs2 => ?_⟩
    have hTn : s.heap.get? s.heap.objs.size = none := by
      cases g : s.heap.get? s.heap.objs.size with
      | none => rfl
      | some o => exact absurd (Heap.lt_size g) (Nat.lt_irrefl _)
    have hzl : n + 4 < s.heap.objs.size := Heap.lt_size st.zz
    have hT2 : IsPair h2 s.heap.objs.size x' y' := (hs2.2 _ (Nat.ne_of_gt hzl)).trans a5
    have S := side_new ha hb
    refine ⟨.ref s.heap.objs.size, upd H s.heap.objs.size (.tup [x, y]), I.turnedT (fp := [n + 4, n + 2, n + 3, n, n + 1]) (h' := h2) (t' := tk) (fun c o hcf q => ?_) hf hTn ⟨by show 2 ≤ sizeLine; decide, [x', y'], .cons ru (.cons rw2 .nil), ⟨_, hT2, rfl, _, rfl⟩⟩, rfl,
      ⟨_, x, y, rfl, I.hok.free hTn, rfl, (fun zs hzs => by rw [I.tuple_inj hzs hq1]; exact hx), (fun zs hzs => by rw [I.tuple_inj hzs hq2]; exact hy)⟩,
      ⟨hz2, (hs2.2 _ S.TIz).trans (hk _ _ S.TIz S.TITO S.TIi1 S.TIi2 st.ti), ⟨_, _, (hs2.2 _ S.TOz).trans a2⟩, a3.1.at fun o q => (hs2.2 n S.i1z).trans q, (of2 _ _ a4).keep fun o q => (hs2.2 (n + 1) S.i2z).trans q⟩, fun c hcf => ?_⟩
    · have c1 : c ≠ n + 4 := fun z => hcf (by simp [z])
      have c2 : c ≠ n + 3 := fun z => hcf (by simp [z])
      have c3 : c ≠ n := fun z => hcf (by simp [z])
      have c4 : c ≠ n + 1 := fun z => hcf (by simp [z])
      exact (hs2.2 c c1).trans (hk c o c1 c2 c3 c4 q)
    · rw [upd_ne]
      · exact (hf c hcf).1
      · rintro rfl
        have hc' : s.heap.objs.size = n + 4 ∨ s.heap.objs.size = n + 2 ∨ s.heap.objs.size = n + 3 ∨ s.heap.objs.size = n ∨ s.heap.objs.size = n + 1 := by simpa using hcf
        omega
  done := by
    intro X hP hw hK hc i pins s σ H E I hf st hg
    subst hP hw hK
    obtain ⟨xs, ys, hq1, hq2, hx⟩ := hg
    obtain ⟨its, rv, p, hz⟩ := I.tuple hq1
    obtain ⟨jts, T2, rv2, D2, to2, of2⟩ := draws2 (tp := true) I hc hq2 (ad_lt 1 hb)
    have e1 := rv.length
    have e2 := rv2.length
    have D1 := drawsTup (prog := X.prog) (w := X.w) (A := X.A.in1) (show X.A.in1.handled = none from I.ok.hd hc) n a (ad_lt 0 ha) its.toArray
    obtain ⟨t0, t00, hTO⟩ := st.to
    refine pyNext_zipD_end D1 D2 (side_new ha hb) st.zz st.ti hTO ⟨st.i1, p⟩ (to2 _ st.i2) (by rw [List.size_toArray]; omega) fun h' tk hk => ⟨rfl, I.turnedF (fp := [n + 4, n + 2, n + 3, n, n + 1]) (fun c o hcf q => ?_) hf⟩
    exact hk c o (fun z => hcf (by simp [z])) (fun z => hcf (by simp [z])) (fun z => hcf (by simp [z])) (fun z => hcf (by simp [z])) q
  self := fun A i s Q E st h => wpAny_pyIter_zip st.zz h
section
variable {X : Cx} {elts : List Expr} {k : Nat} {tpos : Pos}
def iZipT (K : PySem.W.Frag) (ta : TA) : TI := fun σ H R => ta σ H fun vs H1 => ∃ a b xs ys, vs = [.ref a, .ref b] ∧ SqT K H1 a xs ∧ SqT K H1 b ys ∧ R (Itzz K a b) H1
theorem pi_zipT {e f : Expr} {ta : TA} {p pos : Pos} (hg : Gl X "zip") (hm : X.mg "zip" = none) (ha : PA X [e, f] ta) (hs : starEach [e, f] X.env = [(false, eval e X.env), (false, eval f X.env)] := by rfl) (hs2 : starEach [f] X.env = [(false, eval f X.env)] := by rfl) :
    PI X (.Tuple elts k tpos) (.Call (.Name "zip" p) [e, f] [] pos) (iZipT X.K ta) := by
  intro pins s σ H R I h
  refine Call_ (ld_blt I hg hm boot_zip (PyProof.Rows.callWith_type1 (thn (ha pos pins s σ H _ I h) fun us s1 ⟨vs, H1, I1, r1, q1⟩ => ?_) (by rw [hs, hs2]) (by rw [hs2]; rfl)))
  obtain ⟨a, b, xs, ys, rfl, hl, hb, q⟩ := q1
  cases r1 with
  | cons ra rr =>
  cases rr with
  | cons rb rn =>
  cases rn
  cases ra
  cases rb
  obtain ⟨its, rv, pa, hz⟩ := I1.tuple hl
  have fresh : ∀ (h' : Heap), (∀ c o, s1.heap.get? c = some o → h'.get? c = some o) → ∀ c ∈ [s1.heap.objs.size + 4, s1.heap.objs.size + 2, s1.heap.objs.size + 3, s1.heap.objs.size, s1.heap.objs.size + 1], FpOk X pins H1 c := fun h' hk c hc => by
    have hc' : s1.heap.objs.size ≤ c := by
      have : c = s1.heap.objs.size + 4 ∨ c = s1.heap.objs.size + 2 ∨ c = s1.heap.objs.size + 3 ∨ c = s1.heap.objs.size ∨ c = s1.heap.objs.size + 1 := by simpa using hc
      omega
    exact I1.fpOk hc' (I1.hok.fresh hc')
  have pa' : s1.heap.IsTuple a its.toArray := pa
  have la : a < s1.heap.objs.size := let ⟨o, e, _⟩ := pa'; Heap.lt_size e
  obtain ⟨jts, rv2, pb, hz2⟩ := I1.tuple hb
  have pb' : s1.heap.IsTuple b jts.toArray := pb
  have lb : b < s1.heap.objs.size := let ⟨o, e, _⟩ := pb'; Heap.lt_size e
  refine call_zip_tt pa' pb' fun h' a1 a2 a3 a4 a5 hk => ?_
  exact wpAny_pyIter_zip a1 ⟨_, [s1.heap.objs.size + 4, s1.heap.objs.size + 2, s1.heap.objs.size + 3, s1.heap.objs.size, s1.heap.objs.size + 1], _, _, H1, rfl, I1.kept (t' := s1.toks) hk, turn_zipT la lb, ⟨a1, a2, ⟨_, _, a3⟩, a4, a5⟩, fresh h' hk, q⟩
end
end L2
end
section
set_option autoImplicit false
namespace Kn
abbrev S := List Nat
section
variable {κ α : Type} [DecidableEq κ]
def putA : List (κ × α) → κ → α → List (κ × α)
  | [], k, v => [(k, v)]
  | (k', v') :: r, k, v => if k' = k then (k', v) :: r else (k', v') :: putA r k v
def getA : List (κ × α) → κ → Option α
  | [], _ => none
  | (k', v') :: r, k => if k' = k then some v' else getA r k
theorem getA_putA (l : List (κ × α)) (k k' : κ) (v : α) : getA (putA l k v) k' = if k = k' then some v else getA l k' := by
  induction l with
  | nil => simp [putA, getA]
  | cons p r ih =>
    obtain ⟨k0, v0⟩ := p
    by_cases h : k0 = k
    · subst h
      by_cases h' : k0 = k' <;> simp [putA, getA, h']
    · simp only [putA, if_neg h, getA, ih]
      by_cases h1 : k0 = k'
      · subst h1
        rw [if_pos rfl, if_pos rfl, if_neg (fun e => h e.symm)]
      · rw [if_neg h1, if_neg h1]
theorem putA_keys (l : List (κ × α)) (k : κ) (v : α) : (putA l k v).map (·.1) = if k ∈ l.map (·.1) then l.map (·.1) else l.map (·.1) ++ [k] := by
  induction l with
  | nil => simp [putA]
  | cons p r ih =>
    obtain ⟨k0, v0⟩ := p
    by_cases h : k0 = k
    · subst h; simp [putA]
    · have h' : ¬ k = k0 := fun e => h e.symm
      simp only [putA, if_neg h, List.map_cons, ih, List.mem_cons, h', false_or]
      split <;> simp
theorem putA_nodup {l : List (κ × α)} {k : κ} {v : α} (h : (l.map (·.1)).Nodup) : ((putA l k v).map (·.1)).Nodup := by
  rw [putA_keys]
  split
  · exact h
  · rename_i hk
    exact List.nodup_append.mpr ⟨h, by simp, fun a ha b hb e => by
      have : b = k := by simpa using hb
      subst this; subst e; exact hk ha⟩
theorem getA_mem {l : List (κ × α)} (h : (l.map (·.1)).Nodup) (k : κ) (v : α) : (k, v) ∈ l ↔ getA l k = some v := by
  induction l with
  | nil => simp [getA]
  | cons p r ih =>
    obtain ⟨k0, v0⟩ := p
    have h1 : k0 ∉ r.map (·.1) := (List.nodup_cons.mp h).1
    have h2 := ih (List.nodup_cons.mp h).2
    by_cases e : k0 = k
    · subst e
      have g : getA ((k0, v0) :: r) k0 = some v0 := by simp [getA]
      rw [g, List.mem_cons]
      constructor
      · rintro (z | z)
        · rw [(Prod.mk.inj z).2]
        · exact absurd (List.mem_map_of_mem (f := (·.1)) z) h1
      · intro z; rw [Option.some.inj z]; exact .inl rfl
    · simp only [getA, if_neg e, List.mem_cons, Prod.mk.injEq]
      rw [← h2]
      constructor
      · rintro (z | z)
        · exact absurd z.1.symm e
        · exact z
      · intro z; exact .inr z
theorem getA_none {l : List (κ × α)} {k : κ} : getA l k = none ↔ k ∉ l.map (·.1) := by
  induction l with
  | nil => simp [getA]
  | cons p r ih =>
    obtain ⟨k0, v0⟩ := p
    by_cases e : k0 = k
    · subst e; simp [getA]
    · have e' : ¬ k = k0 := fun z => e z.symm
      simp only [getA, if_neg e, ih, List.map_cons, List.mem_cons, e', false_or]
end
def bump (row : List (S × Int)) (l : S) : List (S × Int) := putA row l ((getA row l).getD 0 + 1)
def addP (rows : List (S × List (S × Int))) (p : S × S) : List (S × List (S × Int)) := putA rows p.1 (bump ((getA rows p.1).getD []) p.2)
def rowsOf (ps : List (S × S)) : List (S × List (S × Int)) := ps.foldl addP []
theorem rowsOf_snoc (ps : List (S × S)) (p : S × S) : rowsOf (ps ++ [p]) = addP (rowsOf ps) p := by
  unfold rowsOf; rw [List.foldl_append]; rfl
def endOf (t : S) (o : Nat) : S := t.drop (t.length - o)
def pairs1 (o : Nat) (nm : S) : List (S × S) := (List.range (nm.length + 1)).map fun p => (endOf (nm.take p) o, (nm.drop p).take 1)
def pairsB (o : Nat) (bk : List S) : List (S × S) := bk.flatMap (pairs1 o)
structure RowsOk (ps : List (S × S)) (rows : List (S × List (S × Int))) : Prop where
  nd : (rows.map (·.1)).Nodup
  ndr : ∀ e row, (e, row) ∈ rows → (row.map (·.1)).Nodup
  val : ∀ e l, getA ((getA rows e).getD []) l = if 0 < ps.count (e, l) then some (ps.count (e, l) : Int) else none
  has : ∀ e, (∃ row, getA rows e = some row) ↔ ∃ l, (e, l) ∈ ps
theorem rows_ok (ps : List (S × S)) : RowsOk ps (rowsOf ps) := by
  suffices h : ∀ (qs ps : List (S × S)) rows, RowsOk ps rows → RowsOk (ps ++ qs) (qs.foldl addP rows) by
    have := h ps [] [] ⟨by simp, by simp, by simp [getA], by simp [getA]⟩
    simpa [rowsOf] using this
  intro qs
  induction qs with
  | nil => intro ps rows h; simpa using h
  | cons q qs ih =>
    intro ps rows h
    obtain ⟨e0, l0⟩ := q
    have step : RowsOk (ps ++ [(e0, l0)]) (addP rows (e0, l0)) := by
      have hrow : ((((getA rows e0).getD []).map (·.1))).Nodup := by
        cases g : getA rows e0 with
        | none => simp
        | some row => exact h.ndr e0 row ((getA_mem h.nd e0 row).mpr g)
      refine ⟨putA_nodup h.nd, fun e row hm => ?_, fun e l => ?_, fun e => ?_⟩
      · have hm' := (getA_mem (putA_nodup h.nd) e row).mp hm
        unfold addP at hm'
        rw [getA_putA] at hm'
        split at hm'
        · have := Option.some.inj hm'
          rw [← this]
          exact putA_nodup hrow
        · exact h.ndr e row ((getA_mem h.nd e row).mpr hm')
      · unfold addP
        rw [getA_putA]
        by_cases he : e0 = e
        · subst he
          rw [if_pos rfl]
          show getA (bump ((getA rows e0).getD []) l0) l = _
          unfold bump
          rw [getA_putA, h.val e0 l0]
          by_cases hl : l0 = l
          · subst hl
            rw [if_pos rfl, List.count_append]
            have e1 : List.count (e0, l0) [(e0, l0)] = 1 := by simp
            rw [e1]
            by_cases hc : 0 < List.count (e0, l0) ps
            · simp [hc]
            · have : List.count (e0, l0) ps = 0 := by omega
              simp [this]
          · rw [if_neg hl, h.val e0 l, List.count_append]
            have e1 : List.count (e0, l) [(e0, l0)] = 0 := by
              simp [List.count_cons, hl]
            rw [e1, Nat.add_zero]
        · rw [if_neg he]
          rw [h.val e l, List.count_append]
          have e1 : List.count (e, l) [(e0, l0)] = 0 := by
            simp [List.count_cons, he]
          rw [e1, Nat.add_zero]
      · unfold addP
        rw [getA_putA]
        by_cases he : e0 = e
        · subst he
          rw [if_pos rfl]
          exact ⟨fun _ => ⟨l0, by simp⟩, fun _ => ⟨_, rfl⟩⟩
        · rw [if_neg he, h.has e]
          constructor
          · rintro ⟨l, hl⟩; exact ⟨l, List.mem_append_left _ hl⟩
          · rintro ⟨l, hl⟩
            rcases List.mem_append.mp hl with z | z
            · exact ⟨l, z⟩
            · have : (e, l) = (e0, l0) := by simpa using z
              exact absurd (congrArg Prod.fst this).symm he
    have := ih (ps ++ [(e0, l0)]) (addP rows (e0, l0)) step
    simpa using this
def Ris {α : Type} (xs : List (S × α)) : Prop := xs.Pairwise fun a b => a.1 < b.1
theorem s_irr (a : S) : ¬ a < a := List.lt_irrefl a
theorem s_tr {a b c : S} (h1 : a < b) (h2 : b < c) : a < c := List.lt_trans h1 h2
theorem Ris.keys {α : Type} {xs : List (S × α)} (h : Ris xs) : (xs.map (·.1)).Nodup := by
  unfold Ris at h
  rw [List.Nodup, List.pairwise_map]
  exact h.imp fun {a b} hab (e : a.1 = b.1) => s_irr b.1 (e ▸ hab)
theorem Ris.ext {α : Type} : ∀ {xs ys : List (S × α)}, Ris xs → Ris ys → (∀ p, p ∈ xs ↔ p ∈ ys) → xs = ys
  | [], [], _, _, _ => rfl
  | [], y :: ys, _, _, h => absurd ((h y).mpr (List.mem_cons_self ..)) (by simp)
  | x :: xs, [], _, _, h => absurd ((h x).mp (List.mem_cons_self ..)) (by simp)
  | x :: xs, y :: ys, hx, hy, h => by
    have hx1 := (List.pairwise_cons.mp hx).1
    have hy1 := (List.pairwise_cons.mp hy).1
    have exy : x = y := by
      rcases List.mem_cons.mp ((h x).mp (List.mem_cons_self ..)) with e | e
      · exact e
      · rcases List.mem_cons.mp ((h y).mpr (List.mem_cons_self ..)) with e' | e'
        · exact e'.symm
        · exact absurd (s_tr (hy1 x e) (hx1 y e')) (s_irr _)
    subst exy
    have : xs = ys := Ris.ext (List.pairwise_cons.mp hx).2 (List.pairwise_cons.mp hy).2 fun p => by
      constructor
      · intro hp
        rcases List.mem_cons.mp ((h p).mp (List.mem_cons_of_mem _ hp)) with e | e
        · subst e; exact absurd (hx1 p hp) (s_irr _)
        · exact e
      · intro hp
        rcases List.mem_cons.mp ((h p).mpr (List.mem_cons_of_mem _ hp)) with e | e
        · subst e; exact absurd (hy1 p hp) (s_irr _)
        · exact e
    rw [this]
structure IsRow (ps : List (S × S)) (e : S) (xs : List (S × Int)) : Prop where
  ris : Ris xs
  mem : ∀ l n, (l, n) ∈ xs ↔ n = (ps.count (e, l) : Int) ∧ 0 < n
theorem IsRow.of {ps : List (S × S)} {rows : List (S × List (S × Int))} (h : RowsOk ps rows) {e : S} {xs : List (S × Int)} (hr : Ris xs) (hp : xs.Perm ((getA rows e).getD [])) : IsRow ps e xs := by
  refine ⟨hr, fun l n => ?_⟩
  have hnd : (((getA rows e).getD []).map (·.1)).Nodup := by
    cases g : getA rows e with
    | none => simp
    | some row => exact h.ndr e row ((getA_mem h.nd e row).mpr g)
  rw [hp.mem_iff, getA_mem hnd, h.val]
  by_cases c : 0 < List.count (e, l) ps
  · rw [if_pos c]
    constructor
    · intro z
      have := Option.some.inj z
      omega
    · rintro ⟨z, _⟩; rw [z]
  · rw [if_neg c]
    constructor
    · intro z; cases z
    · rintro ⟨z1, z2⟩; omega
structure IsTable (ps : List (S × S)) (tb : List (S × List (S × Int))) : Prop where
  ris : Ris tb
  has : ∀ e, (∃ xs, (e, xs) ∈ tb) ↔ ∃ l, (e, l) ∈ ps
  row : ∀ e xs, (e, xs) ∈ tb → IsRow ps e xs
theorem IsRow.congr {ps qs : List (S × S)} {e : S} {xs : List (S × Int)} (a : IsRow ps e xs) (h : ∀ p, ps.count p = qs.count p) : IsRow qs e xs :=
  ⟨a.ris, fun l n => by rw [a.mem, h]⟩
theorem sum_counts {β : Type} [BEq β] [LawfulBEq β] : ∀ (ps ks : List β), ks.Nodup → (∀ x ∈ ps, x ∈ ks) → (ks.map fun k => (ps.count k : Int)).sum = (ps.length : Int)
  | [], ks, _, _ => by
    have : (ks.map fun k => (([] : List β).count k : Int)) = ks.map fun _ => (0 : Int) := by simp
    rw [this]
    induction ks with
    | nil => rfl
    | cons k r ih => simp_all
  | x :: ps, ks, nd, h => by
    have ih := sum_counts ps ks nd fun y hy => h y (List.mem_cons_of_mem _ hy)
    have no : ∀ (ks : List β), x ∉ ks → (ks.map fun k => ((x :: ps).count k : Int)).sum = (ks.map fun k => (ps.count k : Int)).sum := by
      intro ks
      induction ks with
      | nil => intro _; rfl
      | cons k r ih =>
        intro hx
        have hx1 : ¬ x = k := fun e => hx (e ▸ List.mem_cons_self ..)
        have hx2 : x ∉ r := fun e => hx (List.mem_cons_of_mem _ e)
        simp only [List.map_cons, List.sum_cons, ih hx2, List.count_cons_of_ne hx1]
    have one : ∀ (ks : List β), ks.Nodup → x ∈ ks → (ks.map fun k => ((x :: ps).count k : Int)).sum = (ks.map fun k => (ps.count k : Int)).sum + 1 := by
      intro ks
      induction ks with
      | nil => intro _ hx; cases hx
      | cons k r ih =>
        intro nd hx
        have hk := (List.nodup_cons.mp nd).1
        by_cases e : x = k
        · subst e
          simp only [List.map_cons, List.sum_cons, no r hk, List.count_cons_self]
          omega
        · have hx' : x ∈ r := (List.mem_cons.mp hx).elim (fun z => absurd z e) id
          simp only [List.map_cons, List.sum_cons, ih (List.nodup_cons.mp nd).2 hx', List.count_cons_of_ne e]
          omega
    rw [one ks nd (h x (List.mem_cons_self ..)), ih, List.length_cons]
    omega
theorem IsRow.total {ps : List (S × S)} {e : S} {xs : List (S × Int)} (a : IsRow ps e xs) : (xs.map (·.2)).sum = ((ps.filter fun p => p.1 = e).length : Int) := by
  have h := sum_counts (ps.filter fun p => decide (p.1 = e)) (xs.map fun p => (e, p.1)) ?_ ?_
  · rw [← h, List.map_map]
    congr 1
    apply List.map_congr_left
    rintro ⟨l, n⟩ hm
    have := ((a.mem l n).mp hm).1
    show n = (List.count (e, l) (ps.filter fun p => decide (p.1 = e)) : Int)
    rw [List.count_filter (by simp)]
    exact this
  · have := a.ris.keys
    rw [List.Nodup, List.pairwise_map] at this ⊢
    exact this.imp fun {p q} hpq z => hpq (congrArg Prod.snd z)
  · rintro ⟨e', l⟩ hm
    obtain ⟨h1, h2⟩ := List.mem_filter.mp hm
    have h2' : e' = e := by simpa using h2
    subst h2'
    exact List.mem_map.mpr ⟨(l, (ps.count (e', l) : Int)), (a.mem l _).mpr ⟨rfl, by
      have := List.count_pos_iff.mpr h1
      omega⟩, rfl⟩
theorem IsTable.total {ps : List (S × S)} {tb : List (S × List (S × Int))} (a : IsTable ps tb) : (tb.map fun r => (r.2.map (·.2)).sum).sum = (ps.length : Int) := by
  have h := sum_counts ps (tb.flatMap fun r => r.2.map fun p => (r.1, p.1)) ?_ ?_
  · rw [← h, List.map_flatMap]
    have : ∀ (tb : List (S × List (S × Int))), (∀ e xs, (e, xs) ∈ tb → IsRow ps e xs) → (tb.map fun r => (r.2.map (·.2)).sum).sum = (tb.flatMap fun r => (r.2.map fun p => (r.1, p.1)).map fun k => (ps.count k : Int)).sum := by
      intro tb
      induction tb with
      | nil => intro _; rfl
      | cons r t ih =>
        intro hr
        obtain ⟨e, xs⟩ := r
        rw [List.map_cons, List.sum_cons, List.flatMap_cons, List.sum_append, ih fun e' xs' hm => hr e' xs' (List.mem_cons_of_mem _ hm)]
        congr 1
        rw [List.map_map]
        congr 1
        apply List.map_congr_left
        rintro ⟨l, n⟩ hm
        exact (((hr e xs (List.mem_cons_self ..)).mem l n).mp hm).1
    exact this tb a.row
  · have : ∀ (tb : List (S × List (S × Int))), Ris tb → (∀ e xs, (e, xs) ∈ tb → IsRow ps e xs) → (tb.flatMap fun r => r.2.map fun p => (r.1, p.1)).Nodup := by
      intro tb
      induction tb with
      | nil => intro _ _; simp
      | cons r t ih =>
        intro hr hrow
        obtain ⟨e, xs⟩ := r
        rw [List.flatMap_cons]
        refine List.nodup_append.mpr ⟨?_, ih (List.pairwise_cons.mp hr).2 fun e' xs' hm => hrow e' xs' (List.mem_cons_of_mem _ hm), ?_⟩
        · have := (hrow e xs (List.mem_cons_self ..)).ris.keys
          rw [List.Nodup, List.pairwise_map] at this ⊢
          exact this.imp fun {p q} hpq z => hpq (congrArg Prod.snd z)
        · intro p hp q hq epq
          obtain ⟨z, _, rfl⟩ := List.mem_map.mp hp
          obtain ⟨r', hr', hz'⟩ := List.mem_flatMap.mp hq
          obtain ⟨z', _, e2⟩ := List.mem_map.mp hz'
          have : e = r'.1 := by
            have := congrArg Prod.fst (epq.trans e2.symm)
            exact this
          have hlt := (List.pairwise_cons.mp hr).1 r' hr'
          exact s_irr _ (this ▸ hlt)
    exact this tb a.ris a.row
  · rintro ⟨e, l⟩ hm
    obtain ⟨xs, hx⟩ := (a.has e).mpr ⟨l, hm⟩
    refine List.mem_flatMap.mpr ⟨(e, xs), hx, List.mem_map.mpr ⟨(l, (ps.count (e, l) : Int)), ((a.row e xs hx).mem l _).mpr ⟨rfl, ?_⟩, rfl⟩⟩
    have := List.count_pos_iff.mpr hm
    omega
end Kn
end
section
set_option autoImplicit false
namespace Kn
def gcdI (a b : Int) : Int := (Int.gcd a b : Int)
def low (u d : Int) : Int × Int := (u / gcdI u d, d / gcdI u d)
structure Fq (q : Int × Int) : Prop where
  up : 0 ≤ q.1
  dn : 0 < q.2
  co : Int.gcd q.1 q.2 = 1
theorem Fq.ext {p q : Int × Int} (a : Fq p) (b : Fq q) (h : p.1 * q.2 = q.1 * p.2) : p = q := by
  obtain ⟨p1, p2⟩ := p
  obtain ⟨q1, q2⟩ := q
  obtain ⟨a1, a2, a3⟩ := a
  obtain ⟨b1, b2, b3⟩ := b
  dsimp only at *
  obtain ⟨x, rfl⟩ := Int.eq_ofNat_of_zero_le a1
  obtain ⟨y, rfl⟩ := Int.eq_ofNat_of_zero_le (Int.le_of_lt a2)
  obtain ⟨z, rfl⟩ := Int.eq_ofNat_of_zero_le b1
  obtain ⟨w, rfl⟩ := Int.eq_ofNat_of_zero_le (Int.le_of_lt b2)
  have h' : x * w = z * y := by exact_mod_cast h
  have a3' : Nat.gcd x y = 1 := by simpa [Int.gcd] using a3
  have b3' : Nat.gcd z w = 1 := by simpa [Int.gcd] using b3
  have hy : 0 < y := by omega
  have hw : 0 < w := by omega
  have d1 : y ∣ w := Nat.Coprime.dvd_of_dvd_mul_left (m := x) (by rw [Nat.Coprime, Nat.gcd_comm]; exact a3') (by rw [h']; exact Nat.dvd_mul_left ..)
  have d2 : w ∣ y := Nat.Coprime.dvd_of_dvd_mul_left (m := z) (by rw [Nat.Coprime, Nat.gcd_comm]; exact b3') (by rw [← h']; exact Nat.dvd_mul_left ..)
  have e : y = w := Nat.dvd_antisymm d1 d2
  subst e
  have : x = z := Nat.eq_of_mul_eq_mul_right hy h'
  rw [this]
def tms (p q : Int × Int) : Int × Int := low (p.1 * q.1) (p.2 * q.2)
def adds (p q : Int × Int) : Int × Int := low (p.1 * q.2 + q.1 * p.2) (p.2 * q.2)
def lss (p q : Int × Int) : Bool := decide (p.1 * q.2 < q.1 * p.2)
end Kn
end
section
set_option autoImplicit false
set_option linter.all false
namespace Kn
def tot (ps : List (S × S)) (e : S) : Nat := (ps.filter fun p => p.1 = e).length
def part (ps : List (S × S)) (e l : S) : Int × Int := if ps.count (e, l) = 0 then (0, 1) else low (ps.count (e, l) : Int) (tot ps e : Int)
def shareG (ps : List (S × S)) (qs : List (S × S)) : Int × Int := qs.foldl (fun w p => tms w (part ps p.1 p.2)) (1, 1)
def shareOf (ps : List (S × S)) (o : Nat) (nm : S) : Int × Int := shareG ps (pairs1 o nm)
def min2 (a b : S) : S := if b < a then b else a
def lkl (sa sb : Int × Int) (a b : S) : S := if lss sa sb = true then b else if lss sb sa = true then a else min2 a b
end Kn
end
section
set_option Elab.async false
set_option linter.all false
set_option maxRecDepth 100000
set_option maxHeartbeats 1000000
namespace Kn
open PySem L2
def top (i : Nat) : Stmt := PySem.Challenge.pw_kinnames_k30_wishes.main.body.getD i (.Pass ⟨0, 0, 0, 0⟩)
def Cal (P : Program) (w : World) (K : PySem.W.Frag) (mg : Str → Option Value) (base : Heap) (k : Nat) (x : Str) (ps : List Str) (sp : Sp) : Prop :=
  ∃ (f : Addr) (fd : FuncData), FnOk P w K mg base CX0 k f fd ps sp ∧ mg x = some (.ref f) ∧ PySem.W.keepIn K (.ref f) = true ∧ Binds K fd ps []
theorem pe_cal {X : Cx} {k : Nat} {x : Str} {ps : List Str} {sp : Sp} {p pos : Pos} {e : Expr} {es : List Expr} {t : TA} (C : Cal X.prog X.w X.K X.mg X.base k x ps sp) (hr : Room k X.A) (hg : Gl X x) (ha : PA X (e :: es) t)
    (hs : starEach (e :: es) X.env = (false, eval e X.env) :: starEach es X.env := by rfl) (hplain : (backTo pos (starEach es X.env)).any (·.1) = false := by rfl)
    (hdb : (x == ("__debug__" : Str)) = false := by decide) : PE X (.Call (.Name x p) (e :: es) [] pos) (tCall sp [] E0 t) := by
  obtain ⟨f, fd, G, hm, kp, b⟩ := C
  exact pe_call G hr hg hm kp b .nil pass0 ha hdb hs hplain
abbrev tx (x : S) : Str := ⟨x.toArray⟩
abbrev sv (x : S) : V := .str (tx x)
theorem tx_cps (x : S) : (tx x).cps.toList = x := by simp [tx]
theorem tx_len (x : S) : (tx x).length = x.length := by simp [tx, Str.length]
theorem range_item {n i : Nat} {x : V} (h : ((List.range n).map fun (i : Nat) => V.int (0 + (i : Int)))[i]? = some x) : i < n ∧ x = .int i := by
  have hi : i < n := by
    have := (List.getElem?_eq_some_iff.mp h).1
    simpa using this
  refine ⟨hi, ?_⟩
  rw [List.getElem?_map, List.getElem?_range hi] at h
  have := Option.some.inj h
  rw [← this]
  show V.int (0 + (i : Int)) = V.int i
  rw [Int.zero_add]
theorem ys1 {ys : St} (h : ys.length = 1) : ∃ y, ys = [y] := by
  match ys, h with
  | [y], _ => exact ⟨y, rfl⟩
theorem ys2 {ys : St} (h : ys.length = 2) : ∃ y z, ys = [y, z] := by
  match ys, h with
  | [y, z], _ => exact ⟨y, z, rfl⟩
theorem ys3 {ys : St} (h : ys.length = 3) : ∃ y z u, ys = [y, z, u] := by
  match ys, h with
  | [y, z, u], _ => exact ⟨y, z, u, rfl⟩
structure Blt (mg : Str → Option Value) : Prop where
  len : mg "len" = none
  range : mg "range" = none
  all : mg "all" = none
  isinstance : mg "isinstance" = none
  str : mg "str" = none
  tuple : mg "tuple" = none
  int : mg "int" = none
  bool : mg "bool" = none
  sorted : mg "sorted" = none
  sum : mg "sum" = none
  min : mg "min" = none
section
variable {P : Program} {w : World} {K : PySem.W.Frag} {mg : Str → Option Value} {base : Heap}
theorem cut_to (t : S) (p : Nat) : cutS (tx t) none (some (p : Int)) = tx (t.take p) := by
  unfold cutS
  rw [tx_len, tx_cps, HT.sIx_nat]
  show tx ((t.drop 0).take (min p t.length - 0)) = _
  rw [List.drop_zero, Nat.sub_zero, ← List.take_eq_take_min]
def spEnd : Sp := fun vs H Q _ => ∃ (t : S) (o : Nat), vs = [sv t, .int o] ∧ 1 ≤ o ∧ t.length ≤ 64 ∧ Q (sv (endOf t o)) H
def pr (o : Nat) (t : S) (p : Nat) : S × S := (endOf (t.take p) o, (t.drop p).take 1)
def elD (p : S × S) : PyData := .tuple [.str (tx p.1), .str (tx p.2)]
def spEnds (K : PySem.W.Frag) : Sp := fun vs H Q _ => ∃ (t : S) (o : Nat), vs = [sv t, .int o] ∧ 1 ≤ o ∧ t.length ≤ 64 ∧ ∀ a xs H', Same H H' → H a = none → H' a = some (.lst xs) → Reps K H' ((pairs1 o t).map elD) xs → Q (.ref a) H'
def isNm (x : S) : Prop := 1 ≤ x.length ∧ x.length ≤ 8 ∧ ∀ c ∈ x, 97 ≤ c ∧ c ≤ 122
def letters : Str := ⟨#[97, 98, 99, 100, 101, 102, 103, 104, 105, 106, 107, 108, 109, 110, 111, 112, 113, 114, 115, 116, 117, 118, 119, 120, 121, 122]⟩
structure Cst (K : PySem.W.Frag) (mg : Str → Option Value) : Prop where
  letters : ∃ t, mg "LETTERS" = some (.str letters t)
  ml : ∃ t, mg "MOST_LETTERS" = some (.int 8 t)
  mn : ∃ t, mg "MOST_NAMES" = some (.int 8 t)
  ib : PySem.W.kitOne K (.type "int") (.type "bool") = some false
def spIsName : Sp := fun vs H Q _ => ∃ x : S, vs = [sv x] ∧ isNm x ∧ ∀ H', Same H H' → Q (.bl true) H'
abbrev sIsName : Stmt := top 14
theorem scIsName : FnScope ["thing"] ["thing"] (defScope sIsName) := ⟨rfl, rfl, rfl, by decide +kernel, rfl, by decide +kernel, by decide +kernel⟩
theorem nd1 : (["letter"] : List Str).Nodup := by decide +kernel
def bkV (bk : List S) : List V := bk.map sv
structure isBk (bk : List S) : Prop where
  lo : 1 ≤ bk.length
  hi : bk.length ≤ 8
  nm : ∀ x ∈ bk, isNm x
def spIsBook : Sp := fun vs H Q _ => ∃ (a : Addr) (bk : List S), vs = [.ref a] ∧ H a = some (.tup (bkV bk)) ∧ isBk bk ∧ ∀ H', Same H H' → Q (.bl true) H'
abbrev sIsBook : Stmt := top 15
theorem scIsBook : FnScope ["thing"] ["thing"] (defScope sIsBook) := ⟨rfl, rfl, rfl, by decide +kernel, rfl, by decide +kernel, by decide +kernel⟩
theorem nd2 : (["name"] : List Str).Nodup := by decide +kernel
def spIsWhole : Sp := fun vs H Q _ => ∃ o a b : Nat, vs = [.int o, .int a, .int b] ∧ a ≤ o ∧ o ≤ b ∧ Q (.bl true) H
abbrev sIsWhole : Stmt := top 16
theorem scIsWhole : FnScope ["thing", "least", "most"] ["thing", "least", "most"] (defScope sIsWhole) := ⟨rfl, rfl, rfl, by decide +kernel, rfl, by decide +kernel, by decide +kernel⟩
def spIsOrder : Sp := fun vs H Q _ => ∃ o : Nat, vs = [.int o] ∧ 1 ≤ o ∧ o ≤ 3 ∧ Q (.bl true) H
def spNeedBook : Sp := fun vs H Q _ => ∃ (a : Addr) (bk : List S), vs = [.ref a] ∧ H a = some (.tup (bkV bk)) ∧ isBk bk ∧ ∀ H', Same H H' → Q .non H'
abbrev sNeedBook : Stmt := top 18
theorem scNeedBook : FnScope ["thing"] ["thing"] (defScope sNeedBook) := ⟨rfl, rfl, rfl, by decide +kernel, rfl, by decide +kernel, by decide +kernel⟩
def spNeedOrder : Sp := fun vs H Q _ => ∃ o : Nat, vs = [.int o] ∧ 1 ≤ o ∧ o ≤ 3 ∧ Q .non H
def spNeedName : Sp := fun vs H Q _ => ∃ x : S, vs = [sv x] ∧ isNm x ∧ ∀ H', Same H H' → Q .non H'
abbrev sNeedName : Stmt := top 19
theorem scNeedName : FnScope ["thing"] ["thing"] (defScope sNeedName) := ⟨rfl, rfl, rfl, by decide +kernel, rfl, by decide +kernel, by decide +kernel⟩
end
end Kn
end
section
set_option Elab.async false
set_option linter.all false
set_option maxRecDepth 100000
set_option maxHeartbeats 1000000
namespace Kn
open PySem L2
theorem tx_inj {a b : S} (h : tx a = tx b) : a = b := by
  have := congrArg (fun z : Str => z.cps.toList) h
  simpa [tx] using this
section
variable {α : Type}
def encD (f : α → V) (l : List (S × α)) : List (Key × V) := encK (l.map fun p => (tx p.1, f p.2))
theorem encD_cons (f : α → V) (p : S × α) (l : List (S × α)) : encD f (p :: l) = ((Sum.inr (tx p.1) : Key), f p.2) :: encD f l := rfl
theorem key_eq {a b : S} : ((Sum.inr (tx a) : Key) = Sum.inr (tx b)) ↔ a = b := ⟨fun h => tx_inj (Sum.inr.inj h), fun h => by rw [h]⟩
theorem val_enc (f : α → V) (l : List (S × α)) (k : S) : valV (encD f l) (Sum.inr (tx k)) = (getA l k).map f := by
  induction l with
  | nil => rfl
  | cons p r ih =>
    rw [encD_cons]
    by_cases e : p.1 = k
    · rw [valV_pos (key_eq.mpr e)]
      obtain ⟨a, b⟩ := p
      have e' : a = k := e
      subst e'
      simp [getA]
    · rw [valV_neg (fun z => e (key_eq.mp z)), ih]
      obtain ⟨a, b⟩ := p
      have e' : ¬ a = k := e
      simp [getA, e']
theorem putA_map {β γ : Type} (g : β → γ) (l : List (S × β)) (k : S) (v : β) : (putA l k v).map (fun p => (p.1, g p.2)) = putA (l.map fun p => (p.1, g p.2)) k (g v) := by
  induction l with
  | nil => rfl
  | cons p r ih =>
    obtain ⟨a, b⟩ := p
    by_cases e : a = k
    · simp [putA, e]
    · simp [putA, e, ih]
theorem getA_map {β γ : Type} (g : β → γ) (l : List (S × β)) (k : S) : getA (l.map fun p => (p.1, g p.2)) k = (getA l k).map g := by
  induction l with
  | nil => rfl
  | cons p r ih =>
    obtain ⟨a, b⟩ := p
    by_cases e : a = k
    · simp [getA, e]
    · simp [getA, e, ih]
theorem putA_mem {β : Type} {l : List (S × β)} {k : S} {v : β} {q : S × β} (h : q ∈ putA l k v) : q = (k, v) ∨ (q ∈ l ∧ (q.1 ≠ k ∨ (l.map (·.1)).Nodup → q.1 ≠ k)) := by
  induction l with
  | nil => simp [putA] at h; exact .inl h
  | cons p r ih =>
    obtain ⟨a, b⟩ := p
    by_cases e : a = k
    · subst e
      have e1 : putA ((a, b) :: r) a v = (a, v) :: r := by simp [putA]
      rw [e1] at h
      rcases List.mem_cons.mp h with z | z
      · exact .inl z
      · refine .inr ⟨List.mem_cons_of_mem _ z, ?_⟩
        rintro (w | w)
        · exact w
        · intro e2
          exact (List.nodup_cons.mp w).1 (by rw [← e2]; exact List.mem_map_of_mem (f := (·.1)) z)
    · have e1 : putA ((a, b) :: r) k v = (a, b) :: putA r k v := by simp [putA, e]
      rw [e1] at h
      rcases List.mem_cons.mp h with z | z
      · subst z
        exact .inr ⟨List.mem_cons_self .., fun _ => e⟩
      · rcases ih z with w | ⟨w1, w2⟩
        · exact .inl w
        · refine .inr ⟨List.mem_cons_of_mem _ w1, ?_⟩
          rintro (u | u)
          · exact u
          · exact w2 (.inr (List.nodup_cons.mp u).2)
theorem putA_new {β : Type} (l : List (S × β)) (k : S) (v : β) (h : k ∉ l.map (·.1)) : putA l k v = l ++ [(k, v)] := by
  induction l with
  | nil => rfl
  | cons q r ih =>
    obtain ⟨a, b⟩ := q
    have e : ¬ a = k := fun z => h (by rw [← z]; exact List.mem_cons_self ..)
    have e1 : putA ((a, b) :: r) k v = (a, b) :: putA r k v := by simp [putA, e]
    rw [e1, ih fun z => h (List.mem_cons_of_mem _ z)]; rfl
theorem putA_same {β γ : Type} (g : β → γ) (l : List (S × β)) (k : S) (v u : β) (h : getA l k = some u) (e : g v = g u) : (putA l k v).map (fun p => (p.1, g p.2)) = l.map fun p => (p.1, g p.2) := by
  induction l with
  | nil => cases h
  | cons p r ih =>
    obtain ⟨a, b⟩ := p
    by_cases ea : a = k
    · have : b = u := by simpa [getA, ea] using h
      subst this
      simp [putA, ea, e]
    · have h' : getA r k = some u := by simpa [getA, ea] using h
      simp [putA, ea, ih h']
end
abbrev rowV (row : List (S × Int)) : List (Key × V) := encD V.int row
structure RA (H0 H : Hp) (d : Addr) (ps : List (S × S)) (ra : List (S × Addr × List (S × Int))) : Prop where
  rows : ra.map (fun r => (r.1, r.2.2)) = rowsOf ps
  top : H d = some (.dK (encD (fun v : Addr × List (S × Int) => V.ref v.1) ra))
  row : ∀ r ∈ ra, H r.2.1 = some (.dK (rowV r.2.2))
  new : ∀ r ∈ ra, H0 r.2.1 = none ∧ r.2.1 ≠ d
  nda : (ra.map fun r => r.2.1).Nodup
def RowsAt (H : Hp) (d : Addr) (ps : List (S × S)) : Prop := ∃ ra : List (S × Addr × List (S × Int)), ra.map (fun r => (r.1, r.2.2)) = rowsOf ps ∧ H d = some (.dK (encD (fun v : Addr × List (S × Int) => V.ref v.1) ra)) ∧ ∀ r ∈ ra, H r.2.1 = some (.dK (rowV r.2.2))
theorem RowsAt.same {H H' : Hp} {d : Addr} {ps : List (S × S)} (h : RowsAt H d ps) (e : Same H H') : RowsAt H' d ps := by
  obtain ⟨ra, h1, h2, h3⟩ := h
  exact ⟨ra, h1, e _ _ h2, fun r hr => e _ _ (h3 r hr)⟩
section
variable {P : Program} {w : World} {K : PySem.W.Frag} {mg : Str → Option Value} {base : Heap}
def spRows : Sp := fun vs H Q _ => ∃ (a : Addr) (bk : List S) (o : Nat), vs = [.ref a, .int o] ∧ H a = some (.tup (bkV bk)) ∧ bk.length ≤ 8 ∧ (∀ x ∈ bk, x.length ≤ 8) ∧ 1 ≤ o ∧ ∀ d H', Same H H' → H d = none → RowsAt H' d (pairsB o bk) → Q (.ref d) H'
theorem keys_nd {H0 H : Hp} {d : Addr} {ps : List (S × S)} {ra : List (S × Addr × List (S × Int))} (R : RA H0 H d ps ra) : (ra.map (·.1)).Nodup := by
  have h := (rows_ok ps).nd
  rw [← R.rows, List.map_map] at h
  exact h
theorem RA.step {H0 H H2 : Hp} {d ad : Addr} {ps : List (S × S)} {ra : List (S × Addr × List (S × Int))} (R : RA H0 H d ps ra) (p : S × S) (row : List (S × Int)) (hrow : row = ((getA ra p.1).map (·.2)).getD [])
    (had : ∀ v, getA ra p.1 = some v → v.1 = ad) (hnew : getA ra p.1 = none → H0 ad = none ∧ ad ≠ d ∧ ad ∉ ra.map fun r => r.2.1)
    (h1 : H2 ad = some (.dK (rowV (bump row p.2)))) (h2 : H2 d = some (.dK (encD (fun v : Addr × List (S × Int) => V.ref v.1) (putA ra p.1 (ad, bump row p.2))))) (h3 : ∀ r ∈ ra, r.2.1 ≠ ad → H2 r.2.1 = some (.dK (rowV r.2.2))) :
    RA H0 H2 d (ps ++ [p]) (putA ra p.1 (ad, bump row p.2)) := by
  have nd := keys_nd R
  have isin : ∀ v, getA ra p.1 = some v → (p.1, v) ∈ ra := fun v hv => (getA_mem nd p.1 v).mpr hv
  have adr : ∀ r ∈ ra, r.1 ≠ p.1 → r.2.1 ≠ ad := fun r hr hne e => by
    cases g : getA ra p.1 with
    | none => exact (hnew g).2.2 (List.mem_map.mpr ⟨r, hr, e⟩)
    | some v =>
      have hv := isin v g
      have ev := had v g
      have : r = (p.1, v) := by
        obtain ⟨i, hi, ei⟩ := List.getElem_of_mem hr
        obtain ⟨j, hj, ej⟩ := List.getElem_of_mem hv
        have hij : i = j := by
          refine (List.getElem_inj (xs := ra.map fun r => r.2.1) (h₀ := by simpa using hi) (h₁ := by simpa using hj) R.nda).mp ?_
          rw [List.getElem_map, List.getElem_map, ei, ej]
          show r.2.1 = v.1
          rw [e, ev]
        subst hij
        rw [← ei, ← ej]
      exact hne (by rw [this])
  refine ⟨?_, h2, fun r hr => ?_, fun r hr => ?_, ?_⟩
  · rw [rowsOf_snoc, ← R.rows]
    unfold addP
    have e := putA_map (fun v : Addr × List (S × Int) => v.2) ra p.1 (ad, bump row p.2)
    rw [e]
    have e2 := getA_map (fun v : Addr × List (S × Int) => v.2) ra p.1
    rw [e2, ← hrow]
  · rcases putA_mem hr with e | ⟨e, e'⟩
    · rw [e]; exact h1
    · exact h3 r e (adr r e (e' (.inr nd)))
  · rcases putA_mem hr with e | ⟨e, _⟩
    · rw [e]
      cases g : getA ra p.1 with
      | none => exact ⟨(hnew g).1, (hnew g).2.1⟩
      | some v =>
        have := R.new _ (isin v g)
        rw [← had v g]; exact this
    · exact R.new r e
  · cases g : getA ra p.1 with
    | none =>
      have hk : p.1 ∉ ra.map (·.1) := getA_none.mp g
      have e := putA_new ra p.1 (ad, bump row p.2) hk
      rw [e, List.map_append]
      refine List.nodup_append.mpr ⟨R.nda, by simp, fun a ha b hb e2 => ?_⟩
      have : b = ad := by simpa using hb
      exact (hnew g).2.2 (by rw [← this, ← e2]; exact ha)
    | some v =>
      have e := putA_same (fun v : Addr × List (S × Int) => v.1) ra p.1 (ad, bump row p.2) v g (had v g).symm
      have e2 : (putA ra p.1 (ad, bump row p.2)).map (fun r => r.2.1) = ra.map fun r => r.2.1 := by
        have := congrArg (List.map Prod.snd) e
        rw [List.map_map, List.map_map] at this
        exact this
      rw [e2]; exact R.nda
def SameQ (H H' : Hp) : Prop := ∀ b o, H b = some o → (∀ kvs, o ≠ .dK kvs) → H' b = some o
theorem Same.q {H H' : Hp} (e : Same H H') : SameQ H H' := fun b o h _ => e b o h
theorem SameQ.trans {H H1 H2 : Hp} (a : SameQ H H1) (b : SameQ H1 H2) : SameQ H H2 := fun c o h hn => b c o (a c o h hn) hn
theorem SameQ.upd {H : Hp} {a : Addr} {kvs : List (Key × V)} {u : HO} (h : H a = some (.dK kvs)) : SameQ H (upd H a u) := fun b o e hn => by
  rw [upd_ne]
  · exact e
  · rintro rfl; rw [h] at e; exact hn kvs (Option.some.inj e).symm
theorem SameQ.sqL {H H' : Hp} (e : SameQ H H') {a : Addr} {xs : List V} (h : SqL K H a xs) : SqL K H' a xs := by
  rcases h with (h | ⟨o, h⟩) | h
  · exact .inl (.inl (e _ _ h (by intro z w; cases w)))
  · exact .inl (.inr ⟨o, e _ _ h (by intro z w; cases w)⟩)
  · exact .inr h
theorem SameQ.sqT {H H' : Hp} (e : SameQ H H') {a : Addr} {xs : List V} (h : SqT K H a xs) : SqT K H' a xs := by
  rcases h with (h | ⟨o, h⟩) | h
  · exact .inl (.inl (e _ _ h (by intro z w; cases w)))
  · exact .inl (.inr ⟨o, e _ _ h (by intro z w; cases w)⟩)
  · exact .inr h
mutual
theorem Rep.sameQ {H H' : Hp} (e : SameQ H H') : ∀ (d : PyData) (v : V), Rep K H d v → Rep K H' d v
  | .none, v, h => h
  | .bool b, v, h => h
  | .int i, v, h => h
  | .str x, v, h => h
  | .list ds, v, h => by
    obtain ⟨a, xs, h1, h2, h3⟩ := h
    exact ⟨a, xs, h1, e.sqL h2, Reps.sameQ e ds xs h3⟩
  | .tuple ds, v, h => by
    obtain ⟨a, xs, h1, h2, h3⟩ := h
    exact ⟨a, xs, h1, e.sqT h2, Reps.sameQ e ds xs h3⟩
  | .dict _, v, h => h
theorem Reps.sameQ {H H' : Hp} (e : SameQ H H') : ∀ (ds : List PyData) (xs : List V), Reps K H ds xs → Reps K H' ds xs
  | [], xs, h => h
  | d :: ds, xs, h => by
    obtain ⟨y, ys, h1, h2, h3⟩ := h
    exact ⟨y, ys, h1, Rep.sameQ e d y h2, Reps.sameQ e ds ys h3⟩
end
end
end Kn
end
section
set_option Elab.async false
set_option linter.all false
set_option maxRecDepth 100000
set_option maxHeartbeats 1000000
namespace Kn
open PySem L2
def rowOf (ps : List (S × S)) (e : S) : List (S × Int) := (getA (rowsOf ps) e).getD []
section
variable {P : Program} {w : World} {K : PySem.W.Frag} {mg : Str → Option Value} {base : Heap}
theorem pg_tupK {X : Cx} (K' : PySem.W.Frag) {pos : Pos} {es : List Expr} {k : Nat} {t : TGs} (n : Nat) (hK : X.K = K') (hc : X.calm = true) (h : PGs X es t)
    (hn : (assignEach es X.env).length = n) (hst : (assignEach es X.env).findIdx? (·.1) = none) : PG X (.Tuple es k pos) (gTup K' n t) := by
  subst hK
  exact pg_tup hc h hn hst
end
theorem RowsAt.get {H : Hp} {d : Addr} {ps : List (S × S)} (h : RowsAt H d ps) (e : S) : ∃ kvs : List (Key × V), H d = some (.dK kvs) ∧ ((valV kvs (Sum.inr (tx e)) = none ∧ rowOf ps e = []) ∨ ∃ a, valV kvs (Sum.inr (tx e)) = some (.ref a) ∧ H a = some (.dK (rowV (rowOf ps e)))) := by
  obtain ⟨ra, h1, h2, h3⟩ := h
  refine ⟨_, h2, ?_⟩
  rw [val_enc]
  have nd : (ra.map (·.1)).Nodup := by
    have h := (rows_ok ps).nd
    rw [← h1, List.map_map] at h
    exact h
  have e2 : getA (rowsOf ps) e = (getA ra e).map (·.2) := by
    rw [← h1]
    exact getA_map (fun v : Addr × List (S × Int) => v.2) ra e
  cases g : getA ra e with
  | none => exact .inl ⟨rfl, by unfold rowOf; rw [e2, g]; rfl⟩
  | some v =>
    refine .inr ⟨v.1, rfl, ?_⟩
    have := h3 _ ((getA_mem nd e v).mpr g)
    unfold rowOf
    rw [e2, g]
    exact this
structure Bk (bk : List S) (o : Nat) : Prop extends isBk bk where
  o1 : 1 ≤ o
  o3 : o ≤ 3
section
variable {P : Program} {w : World} {K : PySem.W.Frag} {mg : Str → Option Value} {base : Heap}
structure Needs (P : Program) (w : World) (K : PySem.W.Frag) (mg : Str → Option Value) (base : Heap) : Prop where
  bk : Cal P w K mg base 3 "need_book" ["thing"] spNeedBook
  od : Cal P w K mg base 3 "need_order" ["thing"] spNeedOrder
  nm : Cal P w K mg base 2 "need_name" ["thing"] spNeedName
  rows : Cal P w K mg base 3 "counted_rows" ["book", "order"] spRows
end
end Kn
end
section
set_option Elab.async false
set_option linter.all false
set_option maxRecDepth 100000
set_option maxHeartbeats 1000000
namespace Kn
open PySem L2
theorem tx_eta (x : Str) : tx x.cps.toList = x := by
  apply MyS.Str_ext
  simp [tx]
def intOf : V → Int
  | .int i => i
  | _ => 0
def cellD (q : S × Int) : PyData := .tuple [.str (tx q.1), .int q.2]
def tbD (r : S × List (S × Int)) : PyData := .tuple [.str (tx r.1), .tuple (r.2.map cellD)]
section
variable {P : Program} {w : World} {K : PySem.W.Frag} {mg : Str → Option Value} {base : Heap}
end
theorem ite_nn {c A B : Prop} [Decidable c] (hc : ¬ c) (h : A) : if (!decide c) = true then A else B := by
  rw [decide_eq_false hc]; exact h
end Kn
end
section
set_option Elab.async false
set_option linter.all false
set_option maxRecDepth 100000
set_option maxHeartbeats 1000000
namespace Kn
open PySem L2
section
variable {P : Program} {w : World} {K : PySem.W.Frag} {mg : Str → Option Value} {base : Heap}
theorem reps_ints {H : Hp} : ∀ ns : List Int, Reps K H (ns.map PyData.int) (ns.map V.int)
  | [] => rfl
  | n :: ns => ⟨_, _, rfl, rfl, reps_ints ns⟩
theorem lay_ints : ∀ ns : List Int, PyData.canLayAll0 (ns.map PyData.int) = true
  | [] => rfl
  | n :: ns => by rw [List.map_cons]; simp only [PyData.canLayAll0, PyData.canLay0, lay_ints ns, Bool.and_self]
def spCell (K : PySem.W.Frag) : Sp := fun vs H Q _ => ∃ (a : Addr) (ns : List Int) (k : Nat), vs = [.ref a, .int k] ∧ SqL K H a (ns.map V.int) ∧ ns.length ≤ 63 ∧ ∀ (i : Int) H', Same H H' → Q (.int i) H'
abbrev sCell : Stmt := top 38
theorem scCell : FnScope ["_law_script", "_law_k"] ["_law_script", "_law_k"] (defScope sCell) := ⟨rfl, rfl, rfl, by decide +kernel, rfl, by decide +kernel, by decide +kernel⟩
theorem shaped_ints (ns : List Int) : SeqAt.shaped (.list (ns.map PyData.int)) = true := by
  unfold SeqAt.shaped
  have h1 : (PyData.list (ns.map PyData.int)).canLay0 = true := by simp only [PyData.canLay0]; exact lay_ints ns
  have h2 : (PyData.list (ns.map PyData.int)).depth ≤ 64 := by
    have go : ∀ ns : List Int, PyData.depthAll (ns.map PyData.int) ≤ 1 := by
      intro ns
      induction ns with
      | nil => decide
      | cons n ns ih => rw [List.map_cons]; simp only [PyData.depthAll, PyData.depth]; omega
    have := go ns
    simp only [PyData.depth]; omega
  rw [h1, decide_eq_true h2]; rfl
theorem ok_cell {f : Addr} {fd : FuncData} (F : Fun K "_law_cell" "_law_cell" sCell f fd) (B : Blt mg) : FnOk P w K mg base CX0 1 f fd ["_law_script", "_law_k"] (spCell K) := by
  refine F.ok scCell (fun vs H Q E h => ?_) (fun cdv A outer s H vs Q E hr h => ?_)
  · obtain ⟨a, ns, k, rfl, _⟩ := h; rfl
  · obtain ⟨a, ns, n, rfl, ha, hl, k⟩ := h
    have hu := hr.units
    refine ⟨_, pss_cons (ps_if (pt_cmpR (op_eqD hu) (pv 0) (pe_lst pa_nil) (nomark _)) (pss_one (ps_ret (pe_op op_mul pe_int (pv 1)))) pss_nil)
      (pss_one (ps_ret (pe_op op_add (pe_ix ix_list (pv 0) (pe_op op_mod (pv 1) (pe_callB call_len_seq (by rfl) B.len PySem.boot_len (pa_cons (pv 0) pa_nil))) (fun _ _ => rfl))
        (pe_op op_mul pe_int (pe_op op_fdiv (pv 1) (pe_callB call_len_seq (by rfl) B.len PySem.boot_len (pa_cons (pv 0) pa_nil))))))), ?_⟩
    refine ⟨_, rfl, by show 0 ≤ sizeLine; decide, fun p hp => ?_⟩
    have s1 : Same H (upd H p (.lst [])) := Same.upd1 hp
    refine ⟨.list (ns.map PyData.int), .list [], ⟨a, _, rfl, s1.seq ha, reps_ints ns⟩, ⟨p, [], rfl, .of upd_same, rfl⟩, shaped_ints ns, rfl, _, rfl, ?_⟩
    cases ns with
    | nil => exact iteT ⟨_, rfl, 7, n, rfl, rfl, .inl ⟨by decide, by decide⟩, k _ _ s1⟩
    | cons m ns =>
      refine iteF ?_
      have hlen : ((m :: ns).map V.int).length = ns.length + 1 := by simp
      have hll : ns.length + 1 ≤ 63 := by simpa using hl
      have hm : ((n : Int) % (((m :: ns).map V.int).length : Int)) = ((n % (ns.length + 1) : Nat) : Int) := by rw [hlen]; rfl
      have hlt : n % (ns.length + 1) < ((m :: ns).map V.int).length := by rw [hlen]; exact Nat.mod_lt _ (Nat.succ_pos _)
      refine ⟨_, rfl, _, rfl, _, rfl, a, _, rfl, .inl (s1.seq ha), _, _, rfl, rfl, by rw [hlen]; omega, ?_⟩
      refine ⟨a, _, _, .int ((m :: ns)[n % (ns.length + 1)]'(by simpa using hlt)), rfl, rfl, s1.seq ha, ?_, ?_⟩
      · rw [hm]
        refine atI_nat ?_
        rw [List.getElem?_map, List.getElem?_eq_getElem (by simpa using hlt)]; rfl
      · exact ⟨_, rfl, _, rfl, a, _, rfl, .inl (s1.seq ha), _, _, rfl, rfl, ⟨by rw [hlen]; omega, by rw [hlen]; omega⟩, _, _, rfl, rfl, .inl ⟨by decide, by decide⟩, _, _, rfl, rfl, k _ _ s1⟩
theorem lt0 {d : Int} (h : 0 < d) : 0 < d := h
theorem cmE {t d q : Int} (h : 0 < d) (h2 : d < 18446744073709551616) : CMul (t % d) q := by
  have h1 := Int.emod_nonneg t (show d ≠ 0 by omega)
  have h3 := Int.emod_lt_of_pos t h
  exact .inl ⟨by omega, by omega⟩
def spDrawn (K : PySem.W.Frag) : Sp := fun vs H Q _ => ∃ (a : Addr) (ns : List Int) (k m : Nat), vs = [.ref a, .int k, .int m] ∧ SqL K H a (ns.map V.int) ∧ ns.length ≤ 63 ∧ 1 ≤ m ∧ m < 1000 ∧ ∀ (i : Nat) H', i < m → Same H H' → Q (.int i) H'
abbrev sDrawn : Stmt := top 39
theorem scDrawn : FnScope ["_law_script", "_law_k", "_law_many", "_law_cell_here"] ["_law_script", "_law_k", "_law_many"] (defScope sDrawn) := ⟨rfl, rfl, rfl, by decide +kernel, rfl, by decide +kernel, by decide +kernel⟩
theorem ok_drawn {f : Addr} {fd : FuncData} (F : Fun K "_law_drawn" "_law_drawn" sDrawn f fd) (c1 : Cal P w K mg base 1 "_law_cell" ["_law_script", "_law_k"] (spCell K)) : FnOk P w K mg base CX0 2 f fd ["_law_script", "_law_k", "_law_many"] (spDrawn K) := by
  refine F.ok scDrawn (fun vs H Q E h => ?_) (fun cdv A outer s H vs Q E hr h => ?_)
  · obtain ⟨a, ns, k, m, rfl, _⟩ := h; rfl
  · obtain ⟨a, ns, n, m, rfl, ha, hl, hm1, hm2, k⟩ := h
    have nd := scDrawn.nd
    refine ⟨_, pss_cons (ps_set (i := 3) nd rfl (Or.inl rfl) (pe_op op_mod (pe_op op_add (pe_op op_mul (pe_op op_mod (pe_cal c1 hr rfl (pa_cons (pv 0) (pa_cons (pv 1) pa_nil))) pe_int) pe_int) (pe_op op_mul pe_int (pe_op op_add (pv 1) pe_int))) pe_int))
      (pss_cons (ps_set (i := 3) nd rfl (Or.inl rfl) (pe_op op_mod (pe_op op_add (pe_op op_mul (pv 3) (pv 3)) (pe_op op_fdiv (pv 3) pe_int)) pe_int))
      (pss_one (ps_ret (pe_op op_mod (pe_op op_fdiv (pe_op op_mod (pe_op op_add (pe_op op_mul (pv 3) (pv 3)) (pe_op op_fdiv (pv 3) pe_int)) pe_int) pe_int) (pv 2))))), ?_⟩
    refine ⟨_, rfl, _, rfl, a, ns, n, rfl, ha, hl, fun i H' s1 => ?_⟩
    have fin : ∀ z : Int, Q (.int (z % (m : Int))) H' := fun z => by
      have z1 : 0 ≤ z % (m : Int) := Int.emod_nonneg _ (by omega)
      have z2 : z % (m : Int) < m := Int.emod_lt_of_pos _ (by omega)
      have e : z % (m : Int) = ((z % (m : Int)).toNat : Int) := (Int.toNat_of_nonneg z1).symm
      rw [e]
      exact k _ _ (by omega) s1
    refine ⟨_, _, rfl, rfl, lt0 (by decide), _, _, rfl, rfl, .inr ⟨by decide, by decide⟩, ?_⟩
    refine ⟨_, rfl, _, _, rfl, rfl, _, _, rfl, rfl, .inl ⟨by decide, by decide⟩, _, _, rfl, rfl, _, _, rfl, rfl, lt0 (by decide), ?_⟩
    refine ⟨_, rfl, _, rfl, _, _, rfl, rfl, cmE (by decide) (by decide), _, rfl, _, _, rfl, rfl, ⟨by decide, by decide⟩, _, _, rfl, rfl, _, _, rfl, rfl, lt0 (by decide), ?_⟩
    refine ⟨_, rfl, _, rfl, _, _, rfl, rfl, cmE (by decide) (by decide), _, rfl, _, _, rfl, rfl, ⟨by decide, by decide⟩, _, _, rfl, rfl, _, _, rfl, rfl, lt0 (by decide), _, _, rfl, rfl, ⟨by decide, by decide⟩, _, rfl, _, _, rfl, rfl, ?_, fin _⟩
    show (0 : Int) < (m : Int)
    omega
end
end Kn
end
section
set_option Elab.async false
set_option linter.all false
set_option maxRecDepth 100000
set_option maxHeartbeats 1000000
namespace Kn
open PySem L2
section
variable {P : Program} {w : World} {K : PySem.W.Frag} {mg : Str → Option Value} {base : Heap}
def spName (K : PySem.W.Frag) : Sp := fun vs H Q _ => ∃ (a : Addr) (ns : List Int) (at' most : Nat), vs = [.ref a, .int at', .int most] ∧ SqL K H a (ns.map V.int) ∧ ns.length ≤ 63 ∧ 1 ≤ most ∧ most ≤ 8 ∧
  ∀ (x : S) H', Same H H' → isNm x → x.length ≤ most → Q (sv x) H'
abbrev sName : Stmt := top 40
theorem scName : FnScope ["_law_script", "_law_at", "_law_most", "_law_size", "_law_letters_here"] ["_law_script", "_law_at", "_law_most"] (defScope sName) := ⟨rfl, rfl, rfl, by decide +kernel, rfl, by decide +kernel, by decide +kernel⟩
theorem ndN : (["_law_letters_here", "_law_script", "_law_at", "_law_k"] : List Str).Nodup := by decide +kernel
abbrev cDr (P : Program) (w : World) (K : PySem.W.Frag) (mg : Str → Option Value) (base : Heap) : Prop := Cal P w K mg base 2 "_law_drawn" ["_law_script", "_law_k", "_law_many"] (spDrawn K)
theorem ok_name {f : Addr} {fd : FuncData} (F : Fun K "_law_name" "_law_name" sName f fd) (B : Blt mg) (c1 : cDr P w K mg base) : FnOk P w K mg base CX0 3 f fd ["_law_script", "_law_at", "_law_most"] (spName K) := by
  refine F.ok scName (fun vs H Q E h => ?_) (fun cdv A outer s H vs Q E hr h => ?_)
  · obtain ⟨a, ns, k, m, rfl, _⟩ := h; rfl
  · obtain ⟨a, ns, n, m, rfl, ha, hl, hm1, hm2, k⟩ := h
    have nd := scName.nd
    refine ⟨_, pss_cons (ps_set (i := 3) nd rfl (Or.inl rfl) (pe_op op_add pe_int (pe_cal c1 hr rfl (pa_cons (pv 0) (pa_cons (pv 1) (pa_cons (pv 2) pa_nil))))))
      (pss_cons (ps_set (i := 4) nd rfl (Or.inr rfl) (pe_ix ix_list (pe_lst (pa_cons pe_str (pa_cons pe_str (pa_cons pe_str pa_nil)))) (pe_cal c1 hr rfl (pa_cons (pv 0) (pa_cons (pe_op op_add (pv 1) pe_int) (pa_cons pe_int pa_nil)))) (fun _ _ => rfl)))
      (pss_one (ps_ret (pe_bm PySem.F.plainAttrs_str PySem.F.slot_str_join PySem.F.type_str_join mt_join pe_str (pa_cons
        (pe_comp (N := ["_law_letters_here", "_law_script", "_law_at", "_law_k"]) (caps := [4, 0, 1]) rfl (compScope_of (by kernel_rfl)) (pi_range1 rfl B.range (pa_cons (pv 3) pa_nil))
          (fun cl C s H ex => pg_name (i := 3) ndN rfl (Or.inl rfl)) (fun cl C s H ex => pf_nil)
          (fun cl C s H ex => pe_ix ix_str (pv 0) (pe_cal c1 hr rfl (pa_cons (pv 1) (pa_cons (pe_op op_add (pe_op op_add (pv 2) pe_int) (pv 3)) (pa_cons (pe_callB call_len_str (by rfl) B.len PySem.boot_len (pa_cons (pv 0) pa_nil)) pa_nil)))) (fun _ _ => rfl))) pa_nil))))), ?_⟩
    refine ⟨_, rfl, _, rfl, _, rfl, a, ns, n, m, rfl, ha, hl, hm1, by omega, fun sz H1 hsz s1 => ?_⟩
    refine ⟨_, _, rfl, rfl, ?_⟩
    refine ⟨by show 3 ≤ sizeLine; decide, fun p hp => ?_⟩
    have s2 : Same H1 (upd H1 p (.lst [.str "ab", .str "ab", .str "abz"])) := Same.upd1 hp
    refine ⟨_, rfl, _, rfl, _, _, rfl, rfl, a, ns, n + 9, 3, rfl, s2.seq (s1.seq ha), hl, by decide, by decide, fun li H3 hli s3 => ?_⟩
    have s123 := (s1.trans s2).trans s3
    obtain ⟨L, hL, e⟩ : ∃ L : S, (L = [97, 98] ∨ L = [97, 98, 122]) ∧ ([.str "ab", .str "ab", .str "abz"] : List V)[li]? = some (sv L) := by
      match li, hli with
      | 0, _ => exact ⟨[97, 98], .inl rfl, rfl⟩
      | 1, _ => exact ⟨[97, 98], .inl rfl, rfl⟩
      | 2, _ => exact ⟨[97, 98, 122], .inr rfl, rfl⟩
    refine ⟨p, _, _, sv L, rfl, rfl, .of (s3 _ _ upd_same), atI_nat e, ?_⟩
    refine ⟨rfl, _, rfl, _, rfl, by omega, by omega, ?_⟩
    have hLl : L.length = 2 ∨ L.length = 3 := by rcases hL with h | h <;> subst h <;> simp
    have hLc : ∀ c ∈ L, 97 ≤ c ∧ c ≤ 122 := by rcases hL with h | h <;> subst h <;> decide
    have hnn : (1 + (sz : Int)).toNat = sz + 1 := by omega
    refine comp_known0 (known_range 0 _) [some (sv L), some (.ref a), some (.int n)] 1 (by rw [List.length_map, List.length_range, hnn]; omega) (fun i acc H' => Same H3 H' ∧ ∃ cs : S, acc = cs.map (fun c => V.str (tx [c])) ∧ cs.length = i ∧ ∀ c ∈ cs, 97 ≤ c ∧ c ≤ 122)
      ⟨Same.refl _, [], rfl, rfl, by simp⟩ (fun i acc H' _ h => ⟨trivial, by obtain ⟨_, cs, rfl, h, _⟩ := h; rw [List.length_map]; omega⟩) ?_ ?_
    · rintro i x acc H' ys Nx hN hx hy ⟨sm, cs, rfl, hcl, hcs⟩
      obtain ⟨y, rfl⟩ := ys1 hy
      rw [hnn] at hx
      obtain ⟨hi, rfl⟩ := range_item hx
      refine ⟨_, rfl, _, rfl, _, rfl, _, _, rfl, rfl, _, rfl, _, _, rfl, rfl, _, rfl, tx L, rfl, by rw [tx_len, sizeLine_eq]; omega, ?_⟩
      rw [tx_len]
      refine ⟨a, ns, n + 1 + i, L.length, rfl, (s123.trans sm).seq ha, hl, by omega, by omega, fun j H5 hj s5 => ?_⟩
      refine ⟨tx L, _, L[j], rfl, rfl, by rw [tx_len, sizeLine_eq]; omega, ?_, ?_⟩
      · rw [tx_cps]
        exact atI_nat (List.getElem?_eq_getElem hj)
      · refine hN _ _ [some (.int i)] rfl ⟨sm.trans s5, cs ++ [L[j]], by rw [List.map_append]; rfl, by rw [List.length_append, hcl]; rfl, fun c hc => ?_⟩
        rcases List.mem_append.mp hc with z | z
        · exact hcs c z
        · have : c = L[j] := by simpa using z
          rw [this]
          exact hLc _ (List.getElem_mem hj)
    · rintro acc H' ⟨sm, cs, rfl, hcl, hcs⟩ D hD
      rw [List.length_map, List.length_range, hnn] at hcl
      have esum : ((cs.map fun c => tx [c]).map (·.length)).sum = cs.length := by
        clear hcl hcs
        induction cs with
        | nil => rfl
        | cons c cs ih => rw [List.map_cons, List.map_cons, List.sum_cons, ih, List.length_cons, tx_len]; show 1 + _ = _; omega
      refine ⟨_, D, cs.map (fun c => tx [c]), rfl, rfl, .of (by rw [upd_same, List.map_map]; rfl), ?_, ?_⟩
      · rw [esum]
        show _ + _ * 0 ≤ _
        omega
      · have ej : Txt.join ⟨#[]⟩ (cs.map fun c => tx [c]) = tx cs := by
          rw [join_flat, List.map_map]
          congr 1
          clear hcl hcs esum
          congr 1
          induction cs with
          | nil => rfl
          | cons c cs ih => rw [List.map_cons, List.flatten_cons, ih]; rfl
        have kk : ∀ Hx, Same H Hx → Q (.str (Txt.join ⟨#[]⟩ (cs.map fun c => tx [c]))) Hx := fun Hx sx => by
          rw [ej]
          exact k cs Hx sx ⟨by omega, by omega, hcs⟩ (by omega)
        exact kk _ ((s123.trans sm).trans (Same.upd1 hD))
end
end Kn
end
section
set_option Elab.async false
set_option linter.all false
set_option maxRecDepth 100000
set_option maxHeartbeats 1000000
namespace Kn
open PySem L2
section
variable {P : Program} {w : World} {K : PySem.W.Frag} {mg : Str → Option Value} {base : Heap}
def spBook (K : PySem.W.Frag) : Sp := fun vs H Q _ => ∃ (a : Addr) (ns : List Int) (at' many most : Nat), vs = [.ref a, .int at', .int many, .int most] ∧ SqL K H a (ns.map V.int) ∧ ns.length ≤ 63 ∧ 1 ≤ many ∧ many ≤ 8 ∧ 1 ≤ most ∧ most ≤ 8 ∧
  ∀ (p : Addr) (bk : List S) H', Same H H' → H' p = some (.tup (bkV bk)) → 1 ≤ bk.length → bk.length ≤ many → (∀ x ∈ bk, isNm x ∧ x.length ≤ most) → Q (.ref p) H'
abbrev sBook : Stmt := top 41
theorem scBook : FnScope ["_law_script", "_law_at", "_law_many", "_law_most", "_law_found", "_law_k"] ["_law_script", "_law_at", "_law_many", "_law_most"] (defScope sBook) := ⟨rfl, rfl, rfl, by decide +kernel, rfl, by decide +kernel, by decide +kernel⟩
theorem ok_book {f : Addr} {fd : FuncData} (F : Fun K "_law_book" "_law_book" sBook f fd) (B : Blt mg) (c1 : cDr P w K mg base) (c2 : Cal P w K mg base 3 "_law_name" ["_law_script", "_law_at", "_law_most"] (spName K)) : FnOk P w K mg base CX0 4 f fd ["_law_script", "_law_at", "_law_many", "_law_most"] (spBook K) := by
  refine F.ok scBook (fun vs H Q E h => ?_) (fun cdv A outer s H vs Q E hr h => ?_)
  · obtain ⟨a, ns, k, m, l, rfl, _⟩ := h; rfl
  · obtain ⟨a, ns, n, many, most, rfl, ha, hl, hm1, hm2, hs1, hs2, k⟩ := h
    have nd := scBook.nd
    have hr2 := hr.mono (j := 2) (by decide)
    refine ⟨_, pss_cons (ps_set (i := 4) nd rfl (Or.inl rfl) (pe_tup pa_nil))
      (pss_cons (ps_for PassesOwn.never rfl (pi_range1 rfl B.range (pa_cons (pe_op op_add pe_int (pe_cal c1 hr2 rfl (pa_cons (pv 0) (pa_cons (pv 1) (pa_cons (pv 2) pa_nil))))) pa_nil)) (pg_name (i := 5) nd rfl (Or.inl rfl))
        (pss_one (ps_set (i := 4) nd rfl (Or.inl rfl) (pe_op (op_catT0.or op_catT) (pv 4) (pe_tup (pa_cons (pe_cal c2 hr rfl (pa_cons (pv 0) (pa_cons (pe_op op_add (pe_op op_add (pv 1) pe_int) (pe_op op_mul pe_int (pv 5))) (pa_cons (pv 3) pa_nil)))) pa_nil))))))
      (pss_one (ps_ret (pv 4)))), ?_⟩
    refine ⟨by show 0 ≤ sizeLine; decide, fun p0 hp0 => ?_⟩
    have s0 : Same H (upd H p0 (.tup [])) := Same.upd1 hp0
    refine ⟨_, rfl, _, rfl, _, rfl, a, ns, n, many, rfl, s0.seq ha, hl, hm1, by omega, fun sz H1 hsz s1 => ?_⟩
    refine ⟨_, _, rfl, rfl, _, rfl, by omega, by omega, ?_⟩
    have hnn : (1 + (sz : Int)).toNat = sz + 1 := by omega
    refine for_known (known_range 0 _) (fun i σ H2 => ∃ (p : Addr) (bk : List S) (y : Option V), σ = [some (.ref a), some (.int n), some (.int many), some (.int most), some (.ref p), y] ∧ Same H H2 ∧ H2 p = some (.tup (bkV bk)) ∧ bk.length = i ∧ ∀ x ∈ bk, isNm x ∧ x.length ≤ most)
      ⟨p0, [], _, rfl, s0.trans s1, s1 _ _ upd_same, rfl, by simp⟩ (fun _ _ _ _ _ => trivial) ?_ ?_
    · rintro i x σ H2 Nx hN hx ⟨p, bk, y, rfl, sm, hp, hbl, hbn⟩
      rw [hnn] at hx
      obtain ⟨hi, rfl⟩ := range_item hx
      refine ⟨_, rfl, _, rfl, _, rfl, _, _, rfl, rfl, _, rfl, _, _, rfl, rfl, .inl ⟨by decide, by decide⟩, _, _, rfl, rfl, _, rfl, a, ns, n + 1 + 10 * i, most, rfl, sm.seq ha, hl, hs1, hs2, fun x H3 s3 hx1 hx2 => ?_⟩
      refine ⟨by show 1 ≤ sizeLine; decide, fun q hq => ?_⟩
      have s4 : Same H3 (upd H3 q (.tup [sv x])) := Same.upd1 hq
      have nx : ∀ b ∈ bk ++ [x], isNm b ∧ b.length ≤ most := fun b hb => by
        rcases List.mem_append.mp hb with z | z
        · exact hbn b z
        · have : b = x := by simpa using z
          rw [this]; exact ⟨hx1, hx2⟩
      cases bk with
      | nil => exact .inl ⟨p, q, _, rfl, rfl, .of (s4 _ _ (s3 _ _ hp)), .of upd_same, hN _ _ ⟨q, [x], _, rfl, (sm.trans s3).trans s4, upd_same, by rw [← hbl]; rfl, nx⟩⟩
      | cons c cs =>
        refine .inr ⟨p, q, _, _, rfl, rfl, .of (s4 _ _ (s3 _ _ hp)), .of upd_same, by simp [bkV], ?_, fun z => by simp at z, fun _ r hr' => hN _ _ ⟨r, (c :: cs) ++ [x], _, rfl, ((sm.trans s3).trans s4).trans (Same.upd1 hr'), ?_, by rw [List.length_append, hbl]; rfl, nx⟩⟩
        · have : (bkV (c :: cs)).length = i := by rw [← hbl]; simp [bkV]
          rw [this, sizeLine_eq]
          show i + 1 ≤ _
          omega
        · rw [upd_same]
          unfold bkV
          rw [List.map_append]; rfl
    · rintro σ H2 ⟨p, bk, y, rfl, sm, hp, hbl, hbn⟩
      rw [List.length_map, List.length_range, hnn] at hbl
      exact ⟨_, rfl, k p bk H2 sm hp (by omega) (by omega) hbn⟩
end
end Kn
end
section
set_option Elab.async false
set_option linter.all false
set_option maxRecDepth 100000
set_option maxHeartbeats 1000000
namespace Kn
open PySem L2
section
variable {X : Cx} {tg : Expr}
end
theorem ite_ne {d : PyData} {A B : Prop} (hd : d.canLay0 = true) (h : B) : if (if true = true then !PyData.eqv d d else PyData.eqv d d) = true then A else B := by
  rw [eqv_refl d hd]; exact h
theorem strOk_of {t : S} (h : ∀ c ∈ t, c ≤ 122) : PyData.strOk (tx t) = true := by
  unfold PyData.strOk
  rw [Array.all_eq_true']
  intro c hc
  have hc' : c ∈ t := by simpa [tx] using hc
  have := h c hc'
  exact decide_eq_true (by omega)
theorem shaped_list {ds : List PyData} (h : ∀ d ∈ ds, d.canLay0 = true ∧ d.depth ≤ 10) : SeqAt.shaped (.list ds) = true ∧ (PyData.list ds).canLay0 = true := by
  have h1 : PyData.canLayAll0 ds = true := by
    induction ds with
    | nil => rfl
    | cons d ds ih => simp only [PyData.canLayAll0, (h d (List.mem_cons_self ..)).1, ih fun e he => h e (List.mem_cons_of_mem _ he), Bool.and_self]
  have h2 : PyData.depthAll ds ≤ 10 := by
    clear h1
    induction ds with
    | nil => decide
    | cons d ds ih =>
      have a := (h d (List.mem_cons_self ..)).2
      have b := ih (fun e he => h e (List.mem_cons_of_mem _ he))
      simp only [PyData.depthAll]; omega
  have h3 : (PyData.list ds).canLay0 = true := by simp only [PyData.canLay0]; exact h1
  have h4 : (PyData.list ds).depth ≤ 64 := by simp only [PyData.depth]; omega
  unfold SeqAt.shaped
  rw [h3, decide_eq_true h4]; exact ⟨rfl, rfl⟩
section
variable {K : PySem.W.Frag}
theorem repL {H : Hp} {a : Addr} {xs : List V} {ds : List PyData} (h : H a = some (.lst xs)) (rp : Reps K H ds xs) : Rep K H (.list ds) (.ref a) := ⟨a, xs, rfl, .of h, rp⟩
end
theorem cut_max (t : S) (o : Nat) : cutS (tx t) (some (if ((tx t).length : Int) - (o : Int) > 0 then ((tx t).length : Int) - (o : Int) else 0)) none = tx (endOf t o) := by
  unfold cutS
  rw [tx_len, tx_cps]
  have e1 : (if (t.length : Int) - (o : Int) > 0 then (t.length : Int) - (o : Int) else 0) = ((t.length - o : Nat) : Int) := by
    by_cases h : (t.length : Int) - (o : Int) > 0
    · rw [if_pos h]; omega
    · rw [if_neg h]; omega
  rw [e1, HT.sIx_nat]
  have e2 : HT.sIx t.length t.length none = t.length := rfl
  rw [e2]
  unfold endOf
  have e3 : min (t.length - o) t.length = t.length - o := by omega
  rw [e3, List.take_of_length_le (by rw [List.length_drop]; omega)]
theorem IsRow.len {ps : List (S × S)} {e : S} {rs : List (S × Int)} (r : IsRow ps e rs) : rs.length ≤ ps.length := by
  have h1 := r.total
  have h2 : (ps.filter fun p => p.1 = e).length ≤ ps.length := List.length_filter_le ..
  have h3 : ∀ q ∈ rs, 0 < q.2 := fun q hq => ((r.mem q.1 q.2).mp hq).2
  have go : ∀ l : List (S × Int), (∀ q ∈ l, 0 < q.2) → (l.length : Int) ≤ (l.map (·.2)).sum := by
    intro l
    induction l with
    | nil => intro _; simp
    | cons q l ih =>
      intro hl
      have a := hl q (List.mem_cons_self ..)
      have b := ih fun x hx => hl x (List.mem_cons_of_mem _ hx)
      rw [List.map_cons, List.sum_cons, List.length_cons]
      have : ((l.length + 1 : Nat) : Int) = (l.length : Int) + 1 := rfl
      omega
  have := go rs h3
  omega
structure Blt2 (mg : Str → Option Value) : Prop where
  max : mg "max" = none
  dict : mg "dict" = none
  list : mg "list" = none
end Kn
end
section
set_option Elab.async false
set_option linter.all false
set_option maxRecDepth 100000
set_option maxHeartbeats 1000000
namespace Kn
open PySem L2
mutual
def Thg (H : Hp) : PyData → V → Prop
  | .none, v => v = .non
  | .bool b, v => v = .bl b
  | .int i, v => v = .int i
  | .str x, v => v = .str x
  | .list ds, v => ∃ a xs, v = .ref a ∧ H a = some (.lst xs) ∧ Thgs H ds xs
  | .tuple ds, v => ∃ a xs, v = .ref a ∧ H a = some (.tup xs) ∧ Thgs H ds xs
  | .dict _, _ => False
def Thgs (H : Hp) : List PyData → List V → Prop
  | [], xs => xs = []
  | d :: ds, xs => ∃ y ys, xs = y :: ys ∧ Thg H d y ∧ Thgs H ds ys
end
mutual
theorem Thg.same {H H' : Hp} (e : Same H H') : ∀ (d : PyData) (v : V), Thg H d v → Thg H' d v
  | .none, v, h => h
  | .bool b, v, h => h
  | .int i, v, h => h
  | .str x, v, h => h
  | .list ds, v, h => by
    obtain ⟨a, xs, h1, h2, h3⟩ := h
    exact ⟨a, xs, h1, e _ _ h2, Thgs.same e ds xs h3⟩
  | .tuple ds, v, h => by
    obtain ⟨a, xs, h1, h2, h3⟩ := h
    exact ⟨a, xs, h1, e _ _ h2, Thgs.same e ds xs h3⟩
  | .dict _, v, h => h
theorem Thgs.same {H H' : Hp} (e : Same H H') : ∀ (ds : List PyData) (xs : List V), Thgs H ds xs → Thgs H' ds xs
  | [], xs, h => h
  | d :: ds, xs, h => by
    obtain ⟨y, ys, h1, h2, h3⟩ := h
    exact ⟨y, ys, h1, Thg.same e d y h2, Thgs.same e ds ys h3⟩
end
mutual
theorem Thg.rep {K : PySem.W.Frag} {H : Hp} : ∀ (d : PyData) (v : V), Thg H d v → Rep K H d v
  | .none, v, h => h
  | .bool b, v, h => h
  | .int i, v, h => h
  | .str x, v, h => h
  | .list ds, v, h => by
    obtain ⟨a, xs, h1, h2, h3⟩ := h
    exact ⟨a, xs, h1, .of h2, Thgs.reps ds xs h3⟩
  | .tuple ds, v, h => by
    obtain ⟨a, xs, h1, h2, h3⟩ := h
    exact ⟨a, xs, h1, .of h2, Thgs.reps ds xs h3⟩
  | .dict _, v, h => h
theorem Thgs.reps {K : PySem.W.Frag} {H : Hp} : ∀ (ds : List PyData) (xs : List V), Thgs H ds xs → Reps K H ds xs
  | [], xs, h => h
  | d :: ds, xs, h => by
    obtain ⟨y, ys, h1, h2, h3⟩ := h
    exact ⟨y, ys, h1, Thg.rep d y h2, Thgs.reps ds ys h3⟩
end
theorem Thgs.length {H : Hp} : ∀ {ds : List PyData} {xs : List V}, Thgs H ds xs → ds.length = xs.length
  | [], xs, h => by rw [show xs = [] from h]; rfl
  | d :: ds, xs, h => by
    obtain ⟨y, ys, h1, _, h3⟩ := h
    rw [h1, List.length_cons, List.length_cons, Thgs.length h3]
theorem Thgs.get {H : Hp} : ∀ {ds : List PyData} {xs : List V} {i : Nat} {y : V}, Thgs H ds xs → xs[i]? = some y → ∃ d, ds[i]? = some d ∧ Thg H d y
  | [], xs, i, y, h, e => by rw [show xs = [] from h] at e; simp at e
  | d :: ds, xs, i, y, h, e => by
    obtain ⟨z, zs, h1, h2, h3⟩ := h
    subst h1
    cases i with
    | zero =>
      have : z = y := by simpa using e
      subst this
      exact ⟨d, rfl, h2⟩
    | succ i =>
      obtain ⟨d', e1, e2⟩ := Thgs.get (i := i) h3 (by simpa using e)
      exact ⟨d', by simpa using e1, e2⟩
theorem Thgs.append {H : Hp} : ∀ {ds es : List PyData} {xs ys : List V}, Thgs H ds xs → Thgs H es ys → Thgs H (ds ++ es) (xs ++ ys)
  | [], es, xs, ys, h, h' => by rw [show xs = [] from h]; exact h'
  | d :: ds, es, xs, ys, h, h' => by
    obtain ⟨z, zs, h1, h2, h3⟩ := h
    subst h1
    exact ⟨z, zs ++ ys, rfl, h2, Thgs.append h3 h'⟩
theorem Thgs.strs {H : Hp} : ∀ (l : List S), Thgs H (l.map fun x => PyData.str (tx x)) (l.map sv)
  | [] => rfl
  | x :: l => ⟨_, _, rfl, rfl, Thgs.strs l⟩
mutual
def sml : PyData → Bool
  | .str x => decide (x.length ≤ 900) && x.cps.toList.all fun c => decide (c < 128)
  | .list ds => decide (ds.length ≤ 900) && smls ds
  | .tuple ds => decide (ds.length ≤ 900) && smls ds
  | .dict _ => false
  | _ => true
def smls : List PyData → Bool
  | [] => true
  | d :: ds => sml d && smls ds
end
theorem smls_mem : ∀ {ds : List PyData} {d : PyData}, smls ds = true → d ∈ ds → sml d = true
  | e :: ds, d, h, hm => by
    have h' : sml e = true ∧ smls ds = true := by simpa [smls] using h
    rcases List.mem_cons.mp hm with z | z
    · rw [z]; exact h'.1
    · exact smls_mem h'.2 z
def isLet (c : Nat) : Bool := decide (97 ≤ c) && decide (c ≤ 122)
def isNameD : PyData → Bool
  | .str x => (decide (1 ≤ x.length) && decide (x.length ≤ 8)) && x.cps.toList.all isLet
  | _ => false
def isBookD : PyData → Bool
  | .tuple ds => (decide (1 ≤ ds.length) && decide (ds.length ≤ 8)) && ds.all isNameD
  | _ => false
def isOrderD : PyData → Bool
  | .int i => decide (1 ≤ i) && decide (i ≤ 3)
  | _ => false
theorem isNameD_inv {d : PyData} (h : isNameD d = true) : ∃ x : S, d = .str (tx x) ∧ isNm x := by
  cases d with
  | str x =>
    simp only [isNameD, Bool.and_eq_true, decide_eq_true_eq, List.all_eq_true, isLet] at h
    refine ⟨x.cps.toList, by rw [tx_eta], ?_, ?_, h.2⟩
    · have := h.1.1; simpa [Str.length] using this
    · have := h.1.2; simpa [Str.length] using this
  | none => cases h
  | bool b => cases h
  | int i => cases h
  | list ds => cases h
  | tuple ds => cases h
  | dict _ => cases h
theorem isNameD_of {x : S} (h : isNm x) : isNameD (.str (tx x)) = true := by
  simp only [isNameD, Bool.and_eq_true, decide_eq_true_eq, List.all_eq_true, isLet, tx_len, tx_cps]
  exact ⟨⟨h.1, h.2.1⟩, h.2.2⟩
theorem isBookD_inv {d : PyData} (h : isBookD d = true) : ∃ bk : List S, d = .tuple (bk.map fun x => PyData.str (tx x)) ∧ isBk bk := by
  cases d with
  | tuple ds =>
    simp only [isBookD, Bool.and_eq_true, decide_eq_true_eq, List.all_eq_true] at h
    obtain ⟨⟨h1, h2⟩, h3⟩ := h
    have go : ∀ ds : List PyData, (∀ d ∈ ds, isNameD d = true) → ∃ bk : List S, ds = bk.map (fun x => PyData.str (tx x)) ∧ ∀ x ∈ bk, isNm x := by
      intro ds
      induction ds with
      | nil => intro _; exact ⟨[], rfl, by simp⟩
      | cons d ds ih =>
        intro hd
        obtain ⟨x, rfl, hx⟩ := isNameD_inv (hd d (List.mem_cons_self ..))
        obtain ⟨bk, rfl, hb⟩ := ih fun e he => hd e (List.mem_cons_of_mem _ he)
        refine ⟨x :: bk, rfl, fun y hy => ?_⟩
        rcases List.mem_cons.mp hy with z | z
        · rw [z]; exact hx
        · exact hb y z
    obtain ⟨bk, rfl, hb⟩ := go ds h3
    rw [List.length_map] at h1 h2
    exact ⟨bk, rfl, h1, h2, hb⟩
  | none => cases h
  | bool b => cases h
  | int i => cases h
  | list ds => cases h
  | str x => cases h
  | dict _ => cases h
theorem isBookD_of {bk : List S} (h : isBk bk) : isBookD (.tuple (bk.map fun x => PyData.str (tx x))) = true := by
  simp only [isBookD, Bool.and_eq_true, decide_eq_true_eq, List.all_eq_true, List.length_map]
  refine ⟨⟨h.lo, h.hi⟩, fun d hd => ?_⟩
  obtain ⟨x, hx, rfl⟩ := List.mem_map.mp hd
  exact isNameD_of (h.nm x hx)
theorem Thgs.strs_inv {H : Hp} : ∀ {l : List S} {xs : List V}, Thgs H (l.map fun x => PyData.str (tx x)) xs → xs = l.map sv
  | [], xs, h => h
  | x :: l, xs, h => by
    obtain ⟨y, ys, h1, h2, h3⟩ := h
    have h2' : y = sv x := h2
    rw [h1, h2', Thgs.strs_inv h3]; rfl
theorem thg_book {H : Hp} {d : PyData} {v : V} (h : Thg H d v) (hb : isBookD d = true) : ∃ (a : Addr) (bk : List S), v = .ref a ∧ H a = some (.tup (bkV bk)) ∧ isBk bk ∧ d = .tuple (bk.map fun x => PyData.str (tx x)) := by
  obtain ⟨bk, rfl, hk⟩ := isBookD_inv hb
  obtain ⟨a, xs, rfl, h1, h2⟩ := h
  rw [Thgs.strs_inv h2] at h1
  exact ⟨a, bk, rfl, h1, hk, rfl⟩
theorem thg_name {H : Hp} {d : PyData} {v : V} (h : Thg H d v) (hb : isNameD d = true) : ∃ x : S, v = sv x ∧ isNm x ∧ d = .str (tx x) := by
  obtain ⟨x, rfl, hx⟩ := isNameD_inv hb
  exact ⟨x, h, hx, rfl⟩
structure KitF (K : PySem.W.Frag) : Prop where
  ns : PySem.W.kitOne K (.type "NoneType") (.type "str") = some false
  bs : PySem.W.kitOne K (.type "bool") (.type "str") = some false
  is : PySem.W.kitOne K (.type "int") (.type "str") = some false
  ls : PySem.W.kitOne K (.type "list") (.type "str") = some false
  ts : PySem.W.kitOne K (.type "tuple") (.type "str") = some false
  nt : PySem.W.kitOne K (.type "NoneType") (.type "tuple") = some false
  bt : PySem.W.kitOne K (.type "bool") (.type "tuple") = some false
  it : PySem.W.kitOne K (.type "int") (.type "tuple") = some false
  lt : PySem.W.kitOne K (.type "list") (.type "tuple") = some false
  st : PySem.W.kitOne K (.type "str") (.type "tuple") = some false
  ni : PySem.W.kitOne K (.type "NoneType") (.type "int") = some false
  bi : PySem.W.kitOne K (.type "bool") (.type "int") = some true
  li : PySem.W.kitOne K (.type "list") (.type "int") = some false
  ti : PySem.W.kitOne K (.type "tuple") (.type "int") = some false
  si : PySem.W.kitOne K (.type "str") (.type "int") = some false
theorem in_letters128 {c : Nat} (h : c < 128) : (Builtin.Str.occurrences letters ⟨#[c]⟩ 0 letters.length 1).isEmpty = !isLet c := by
  have all : ∀ d : _root_.Fin 128, (Builtin.Str.occurrences letters ⟨#[d.val]⟩ 0 letters.length 1).isEmpty = !isLet d.val := by decide +kernel
  exact all ⟨c, h⟩
section
variable {P : Program} {w : World} {K : PySem.W.Frag} {mg : Str → Option Value} {base : Heap}
theorem ty_str (KF : KitF K) {H : Hp} : ∀ {d : PyData} {v : V}, Thg H d v → ∃ t b, TyOf K H v t ∧ PySem.W.kitOne K t (.type "str") = some b ∧ (b = true ↔ ∃ x, d = .str x)
  | .none, v, h => by cases (show v = .non from h); exact ⟨_, _, .non, KF.ns, by simp⟩
  | .bool b, v, h => by cases (show v = .bl b from h); exact ⟨_, _, .bl _, KF.bs, by simp⟩
  | .int i, v, h => by cases (show v = .int i from h); exact ⟨_, _, .int _, KF.is, by simp⟩
  | .str x, v, h => by cases (show v = .str x from h); exact ⟨_, true, .str _, rfl, by simp⟩
  | .list ds, v, h => by obtain ⟨a, xs, rfl, h1, _⟩ := h; exact ⟨_, _, .lst h1, KF.ls, by simp⟩
  | .tuple ds, v, h => by obtain ⟨a, xs, rfl, h1, _⟩ := h; exact ⟨_, _, .tup h1, KF.ts, by simp⟩
  | .dict _, v, h => h.elim
theorem ty_tup (KF : KitF K) {H : Hp} : ∀ {d : PyData} {v : V}, Thg H d v → ∃ t b, TyOf K H v t ∧ PySem.W.kitOne K t (.type "tuple") = some b ∧ (b = true ↔ ∃ ds, d = .tuple ds)
  | .none, v, h => by cases (show v = .non from h); exact ⟨_, _, .non, KF.nt, by simp⟩
  | .bool b, v, h => by cases (show v = .bl b from h); exact ⟨_, _, .bl _, KF.bt, by simp⟩
  | .int i, v, h => by cases (show v = .int i from h); exact ⟨_, _, .int _, KF.it, by simp⟩
  | .str x, v, h => by cases (show v = .str x from h); exact ⟨_, _, .str _, KF.st, by simp⟩
  | .list ds, v, h => by obtain ⟨a, xs, rfl, h1, _⟩ := h; exact ⟨_, _, .lst h1, KF.lt, by simp⟩
  | .tuple ds, v, h => by obtain ⟨a, xs, rfl, h1, _⟩ := h; exact ⟨_, true, .tup h1, rfl, by simp⟩
  | .dict _, v, h => h.elim
def spIsNameT : Sp := fun vs H Q _ => ∃ v d, vs = [v] ∧ Thg H d v ∧ sml d = true ∧ ∀ H', Same H H' → Q (.bl (isNameD d)) H'
theorem ok_isnameT {f : Addr} {fd : FuncData} (F : Fun K "is_name" "is_name" sIsName f fd) (B : Blt mg) (C : Cst K mg) (KF : KitF K) : FnOk P w K mg base CX0 1 f fd ["thing"] spIsNameT := by
  obtain ⟨tl, hl⟩ := C.letters
  obtain ⟨t8, h8⟩ := C.ml
  refine F.ok scIsName (fun vs H Q E h => ?_) (fun cdv A outer s H vs Q E hr h => ?_)
  · obtain ⟨v, d, rfl, _⟩ := h; rfl
  · obtain ⟨v, d, rfl, hv, hs, k⟩ := h
    refine ⟨_, pss_cons (ps_if (PW.pt (pw_or (pt_not (pt_val (pe_callB call_isinst (by rfl) B.isinstance PyProof.Rows.boot_isinstance (pa_cons (pv 0) (pa_cons (pe_bltn (v := .ty "str") (by rfl) B.str PyProof.Rows.boot_str rfl) pa_nil)))))
        (pw_or1 (pt_not (pt_chain op_le op_le pe_int (pe_callB call_len_str (by rfl) B.len PySem.boot_len (pa_cons (pv 0) pa_nil)) (pe_glob (v := .int 8) (by rfl) h8 ⟨_, rfl⟩))))))
        (pss_one (ps_ret pe_bl)) pss_nil)
      (pss_one (ps_ret (pe_callB (call_all rfl) (by rfl) B.all PyProof.Rows.boot_all (pa_cons (pe_comp (N := ["letter"]) (caps := []) rfl (compScope_of (by kernel_rfl)) (pi_str (pv 0))
        (fun cl C s H ex => pg_name (i := 0) nd1 rfl (Or.inl rfl)) (fun cl C s H ex => pf_nil)
        (fun cl C s H ex => pe_cmpR op_in_str (pv 0) (pe_glob (v := .str letters) (by rfl) hl ⟨_, rfl⟩) (by with_unfolding_all rfl))) pa_nil)))), ?_⟩
    obtain ⟨t, b, hty, hkit, hb⟩ := ty_str KF hv
    refine ⟨_, rfl, _, _, t, b, rfl, hty, hkit, b, rfl, ?_⟩
    cases b with
    | false =>
      have hd : isNameD d = false := by
        cases d with
        | str x => exact absurd (hb.mpr ⟨x, rfl⟩) (by decide)
        | _ => rfl
      rw [hd] at k
      exact iteT (iteT (k H (Same.refl H)))
    | true =>
      obtain ⟨x, rfl⟩ := hb.mp rfl
      have hv' : v = .str x := hv
      subst hv'
      have hsx : x.length ≤ 900 ∧ ∀ c ∈ x.cps.toList, c < 128 := by
        simp only [sml, Bool.and_eq_true, decide_eq_true_eq, List.all_eq_true] at hs
        exact hs
      refine iteF ?_
      refine ⟨_, rfl, x, rfl, (by rw [sizeLine_eq]; omega), _, _, rfl, rfl, _, rfl, ?_⟩
      by_cases h1 : 1 ≤ x.length
      · refine iteD (by omega) ⟨_, _, rfl, rfl, _, rfl, ?_⟩
        by_cases h2 : x.length ≤ 8
        · refine iteNS (by omega) ?_
          refine ⟨_, rfl, _, rfl, ?_⟩
          have hxl : x.cps.toList.length = x.length := by simp [Str.length]
          refine comp_known0 (known_str x) [] 1 (by rw [List.length_map]; omega) (fun i acc H' => Same H H' ∧ acc = ((x.cps.toList.take i).map isLet).map V.bl) ⟨Same.refl H, rfl⟩ (fun i acc H' _ h => ⟨trivial, by rw [h.2, List.length_map, List.length_map, List.length_take]; omega⟩) ?_ ?_
          · rintro i y acc H' ys Nx hN hx hy ⟨sm, rfl⟩
            obtain ⟨y', rfl⟩ := ys1 hy
            rw [List.getElem?_map] at hx
            cases e : x.cps.toList[i]? with
            | none => rw [e] at hx; cases hx
            | some c =>
              rw [e] at hx
              have hy2 : y = .str ⟨#[c]⟩ := (Option.some.inj hx).symm
              subst hy2
              have hi : i < x.cps.toList.length := (List.getElem?_eq_some_iff.mp e).1
              refine ⟨_, rfl, _, _, rfl, rfl, ?_⟩
              rw [in_letters128 (hsx.2 c (List.mem_of_getElem? e)), Bool.not_not]
              refine hN _ _ [some (.str ⟨#[c]⟩)] rfl ⟨sm, ?_⟩
              rw [List.take_succ_eq_append_getElem hi, (List.getElem?_eq_some_iff.mp e).2, List.map_append, List.map_append]; rfl
          · rintro acc H' ⟨sm, rfl⟩ D hD
            rw [List.length_map, List.take_length]
            refine ⟨D, _, rfl, .of upd_same, ?_⟩
            have e2 : ((x.cps.toList.map isLet).all id) = isNameD (.str x) := by
              simp only [isNameD, decide_eq_true h1, decide_eq_true h2, Bool.and_self, Bool.true_and, List.all_map]
              rfl
            rw [e2]
            exact k _ (sm.upd_new (sm.free hD))
        · have hd : isNameD (.str x) = false := by simp [isNameD, h2]
          rw [hd] at k
          refine ite_nn (fun z => h2 (by omega)) (k H (Same.refl H))
      · have hd : isNameD (.str x) = false := by simp [isNameD, h1]
        rw [hd] at k
        refine iteDF (fun z => h1 (by omega)) ?_
        exact ⟨false, rfl, iteT (k H (Same.refl H))⟩
def spIsBookT : Sp := fun vs H Q _ => ∃ v d, vs = [v] ∧ Thg H d v ∧ sml d = true ∧ ∀ H', Same H H' → Q (.bl (isBookD d)) H'
theorem ok_isbookT {f : Addr} {fd : FuncData} (F : Fun K "is_book" "is_book" sIsBook f fd) (B : Blt mg) (C : Cst K mg) (KF : KitF K) (cName : Cal P w K mg base 1 "is_name" ["thing"] spIsNameT) : FnOk P w K mg base CX0 2 f fd ["thing"] spIsBookT := by
  obtain ⟨t8, h8⟩ := C.mn
  refine F.ok scIsBook (fun vs H Q E h => ?_) (fun cdv A outer s H vs Q E hr h => ?_)
  · obtain ⟨v, d, rfl, _⟩ := h; rfl
  · obtain ⟨v, d, rfl, hv, hs, k⟩ := h
    refine ⟨_, pss_cons (ps_if (PW.pt (pw_or (pt_not (pt_val (pe_callB call_isinst (by rfl) B.isinstance PyProof.Rows.boot_isinstance (pa_cons (pv 0) (pa_cons (pe_bltn (v := .ty "tuple") (by rfl) B.tuple PyProof.Rows.boot_tuple rfl) pa_nil)))))
        (pw_or1 (pt_not (pt_chain op_le op_le pe_int (pe_callB call_len_seq (by rfl) B.len PySem.boot_len (pa_cons (pv 0) pa_nil)) (pe_glob (v := .int 8) (by rfl) h8 ⟨_, rfl⟩))))))
        (pss_one (ps_ret pe_bl)) pss_nil)
      (pss_one (ps_ret (pe_callB (call_all rfl) (by rfl) B.all PyProof.Rows.boot_all (pa_cons (pe_comp (N := ["name"]) (caps := []) rfl (compScope_of (by kernel_rfl)) (pi_tup (pv 0))
        (fun cl C s H ex => pg_name (i := 0) nd2 rfl (Or.inl rfl)) (fun cl C s H ex => pf_nil)
        (fun cl C s H ex => pe_cal cName hr rfl (pa_cons (pv 0) pa_nil))) pa_nil)))), ?_⟩
    obtain ⟨t, b, hty, hkit, hb⟩ := ty_tup KF hv
    refine ⟨_, rfl, _, _, t, b, rfl, hty, hkit, b, rfl, ?_⟩
    cases b with
    | false =>
      have hd : isBookD d = false := by
        cases d with
        | tuple x => exact absurd (hb.mpr ⟨x, rfl⟩) (by decide)
        | _ => rfl
      rw [hd] at k
      exact iteT (iteT (k H (Same.refl H)))
    | true =>
      obtain ⟨ds, rfl⟩ := hb.mp rfl
      obtain ⟨a, xs, rfl, ha, hxs⟩ := hv
      have hsx : ds.length ≤ 900 ∧ smls ds = true := by
        simp only [sml, Bool.and_eq_true, decide_eq_true_eq] at hs
        exact hs
      have hxl : xs.length = ds.length := hxs.length.symm
      refine iteF ?_
      refine ⟨_, rfl, _, _, rfl, .inr (.of ha), _, _, rfl, rfl, _, rfl, ?_⟩
      by_cases h1 : 1 ≤ ds.length
      · refine iteD (by rw [hxl]; omega) ⟨_, _, rfl, rfl, _, rfl, ?_⟩
        by_cases h2 : ds.length ≤ 8
        · refine iteNS (by rw [hxl]; omega) ?_
          refine ⟨_, rfl, a, rfl, ⟨_, .of ha⟩, ?_⟩
          refine comp_known0 (known_tup _ a xs) [] 1 (by omega) (fun i acc H' => Same H H' ∧ acc = ((ds.take i).map isNameD).map V.bl) ⟨Same.refl H, rfl⟩ (fun i acc H' _ h => ⟨.of (h.1 _ _ ha), by rw [h.2, List.length_map, List.length_map, List.length_take]; omega⟩) ?_ ?_
          · rintro i y acc H' ys Nx hN hx hy ⟨sm, rfl⟩
            obtain ⟨y', rfl⟩ := ys1 hy
            obtain ⟨e, he, hye⟩ := hxs.get hx
            have hi : i < ds.length := (List.getElem?_eq_some_iff.mp he).1
            refine ⟨_, rfl, y, e, rfl, Thg.same sm _ _ hye, smls_mem hsx.2 (List.mem_of_getElem? he), fun H5 sm5 => hN _ _ [some y] rfl ⟨sm.trans sm5, ?_⟩⟩
            rw [List.take_succ_eq_append_getElem hi, (List.getElem?_eq_some_iff.mp he).2, List.map_append, List.map_append]; rfl
          · rintro acc H' ⟨sm, rfl⟩ D hD
            rw [hxl, List.take_length]
            refine ⟨D, _, rfl, .of upd_same, ?_⟩
            have e2 : ((ds.map isNameD).all id) = isBookD (.tuple ds) := by
              simp only [isBookD, decide_eq_true h1, decide_eq_true h2, Bool.and_self, Bool.true_and, List.all_map]
              rfl
            rw [e2]
            exact k _ (sm.upd_new (sm.free hD))
        · have hd : isBookD (.tuple ds) = false := by simp [isBookD, h2]
          rw [hd] at k
          refine ite_nn (fun z => h2 (by rw [hxl] at z; omega)) (k H (Same.refl H))
      · have hd : isBookD (.tuple ds) = false := by simp [isBookD, h1]
        rw [hd] at k
        refine iteDF (fun z => h1 (by rw [hxl] at z; omega)) ?_
        exact ⟨false, rfl, iteT (k H (Same.refl H))⟩
def isWholeD (a b : Int) : PyData → Bool
  | .int i => decide (a ≤ i) && decide (i ≤ b)
  | _ => false
def spIsWholeT : Sp := fun vs H Q _ => ∃ v d a b, vs = [v, .int a, .int b] ∧ Thg H d v ∧ Q (.bl (isWholeD a b d)) H
theorem ok_iswholeT {f : Addr} {fd : FuncData} (F : Fun K "is_whole" "is_whole" sIsWhole f fd) (B : Blt mg) (C : Cst K mg) (KF : KitF K) : FnOk P w K mg base CX0 1 f fd ["thing", "least", "most"] spIsWholeT := by
  refine F.ok scIsWhole (fun vs H Q E h => ?_) (fun cdv A outer s H vs Q E hr h => ?_)
  · obtain ⟨v, d, a, b, rfl, _⟩ := h; rfl
  · obtain ⟨v, d, a, b, rfl, hv, k⟩ := h
    refine ⟨_, pss_cons (ps_if (PW.pt (pw_or (pt_not (pt_val (pe_callB call_isinst (by rfl) B.isinstance PyProof.Rows.boot_isinstance (pa_cons (pv 0) (pa_cons (pe_bltn (v := .ty "int") (by rfl) B.int PyProof.Rows.boot_int rfl) pa_nil)))))
        (pw_or1 (pt_val (pe_callB call_isinst (by rfl) B.isinstance PyProof.Rows.boot_isinstance (pa_cons (pv 0) (pa_cons (pe_bltn (v := .ty "bool") (by rfl) B.bool PyProof.Rows.boot_bool rfl) pa_nil)))))))
        (pss_one (ps_ret pe_bl)) pss_nil)
      (pss_one (ps_ret (pe_chain op_le op_le (pv 1) (pv 0) (pv 2)))), ?_⟩
    cases d with
    | none => cases (show v = .non from hv); exact ⟨_, rfl, _, _, _, false, rfl, .non, KF.ni, _, rfl, iteT (iteT k)⟩
    | str x => cases (show v = .str x from hv); exact ⟨_, rfl, _, _, _, false, rfl, .str _, KF.si, _, rfl, iteT (iteT k)⟩
    | list ds => obtain ⟨a, xs, rfl, h1, _⟩ := hv; exact ⟨_, rfl, _, _, _, false, rfl, .lst h1, KF.li, _, rfl, iteT (iteT k)⟩
    | tuple ds => obtain ⟨a, xs, rfl, h1, _⟩ := hv; exact ⟨_, rfl, _, _, _, false, rfl, .tup h1, KF.ti, _, rfl, iteT (iteT k)⟩
    | dict _ => exact hv.elim
    | bool b =>
      cases (show v = .bl b from hv)
      exact ⟨_, rfl, _, _, _, true, rfl, .bl _, KF.bi, _, rfl, iteF ⟨_, rfl, _, _, _, true, rfl, .bl _, (by rfl), _, rfl, iteT k⟩⟩
    | int i =>
      cases (show v = .int i from hv)
      refine ⟨_, rfl, _, _, _, true, rfl, .int _, (by rfl), _, rfl, ?_⟩
      refine iteF ?_
      refine ⟨_, rfl, _, _, _, false, rfl, .int _, C.ib, _, rfl, ?_⟩
      refine iteF ?_
      refine ⟨_, rfl, _, rfl, _, _, rfl, rfl, _, rfl, ?_⟩
      by_cases h1 : a ≤ i
      · refine iteD h1 ⟨_, rfl, _, _, rfl, rfl, ?_⟩
        have e : isWholeD a b (.int i) = decide (i ≤ b) := by simp [isWholeD, h1]
        rw [e] at k
        exact k
      · have e : isWholeD a b (.int i) = false := by simp [isWholeD, h1]
        rw [e] at k
        exact iteDF h1 k
def spIsOrderT : Sp := fun vs H Q _ => ∃ v d, vs = [v] ∧ Thg H d v ∧ Q (.bl (isOrderD d)) H
structure Errs (K : PySem.W.Frag) (mg : Str → Option Value) (nb no nn : Addr) : Prop where
  b : XCls K mg "NoBook" nb
  o : XCls K mg "NoOrder" no
  n : XCls K mg "NoName" nn
def spRef (C : Addr) (ok : PyData → Bool) : Sp := fun vs H Q E => ∃ v d, vs = [v] ∧ Thg H d v ∧ sml d = true ∧ (ok d = true → ∀ H', Same H H' → Q .non H') ∧ (ok d = false → ∀ H', Same H H' → E (.ref C) none H')
theorem ok_needbookR {f : Addr} {fd : FuncData} {C : Addr} (F : Fun K "need_book" "need_book" sNeedBook f fd) (O : XCls K mg "NoBook" C) (c1 : Cal P w K mg base 2 "is_book" ["thing"] spIsBookT) : FnOk P w K mg base (CXr P w) 3 f fd ["thing"] (spRef C isBookD) := by
  refine F.okR scNeedBook (fun vs H Q E h => ?_) (fun cdv A outer s H vs Q E hr h ok => ?_)
  · obtain ⟨v, d, rfl, _⟩ := h; rfl
  · obtain ⟨v, d, rfl, hv, hs, k1, k2⟩ := h
    refine ⟨_, pss_one (ps_if (pt_not (pt_val (pe_cal c1 hr rfl (pa_cons (pv 0) pa_nil)))) (pss_one (ps_raise ok rfl O (by rfl) (pa_cons pe_str pa_nil))) pss_nil), ?_⟩
    refine ⟨_, rfl, v, d, rfl, hv, hs, fun H' sm => ⟨_, rfl, ?_⟩⟩
    cases e : isBookD d with
    | true => exact iteF (k1 e H' sm)
    | false => exact iteT ⟨by show 1 ≤ sizeLine; decide, k2 e H' sm⟩
theorem ok_neednameR {f : Addr} {fd : FuncData} {C : Addr} (F : Fun K "need_name" "need_name" sNeedName f fd) (O : XCls K mg "NoName" C) (c1 : Cal P w K mg base 1 "is_name" ["thing"] spIsNameT) : FnOk P w K mg base (CXr P w) 2 f fd ["thing"] (spRef C isNameD) := by
  refine F.okR scNeedName (fun vs H Q E h => ?_) (fun cdv A outer s H vs Q E hr h ok => ?_)
  · obtain ⟨v, d, rfl, _⟩ := h; rfl
  · obtain ⟨v, d, rfl, hv, hs, k1, k2⟩ := h
    refine ⟨_, pss_one (ps_if (pt_not (pt_val (pe_cal c1 hr rfl (pa_cons (pv 0) pa_nil)))) (pss_one (ps_raise ok rfl O (by rfl) (pa_cons pe_str pa_nil))) pss_nil), ?_⟩
    refine ⟨_, rfl, v, d, rfl, hv, hs, fun H' sm => ⟨_, rfl, ?_⟩⟩
    cases e : isNameD d with
    | true => exact iteF (k1 e H' sm)
    | false => exact iteT ⟨by show 1 ≤ sizeLine; decide, k2 e H' sm⟩
structure NeedsR (P : Program) (w : World) (K : PySem.W.Frag) (mg : Str → Option Value) (base : Heap) (nb no nn : Addr) : Prop where
  bk : CalR P w K mg base 3 "need_book" ["thing"] (spRef nb isBookD)
  od : CalR P w K mg base 3 "need_order" ["thing"] (spRef no isOrderD)
  nm : CalR P w K mg base 2 "need_name" ["thing"] (spRef nn isNameD)
  rows : Cal P w K mg base 3 "counted_rows" ["book", "order"] spRows
end
end Kn
end
section
set_option Elab.async false
set_option linter.all false
set_option maxRecDepth 100000
set_option maxHeartbeats 1000000
namespace Kn
open PySem L2
def errOk (K : PySem.W.Frag) (cs : List Addr) (L : Addr) : Bool :=
  PySem.W.excIn K L veMro "ValueError.__new__" && cs.all (fun c => PySem.W.excIn K c veMro "ValueError.__new__" && subOf K c L && (PySem.W.findIn K (.ref c) "__getattribute__" == some (some (.builtin "BaseException.__getattribute__"))) && (PySem.W.findIn K (.ref c) "__getattr__" == some none)
    && (PySem.W.findIn K (.ref c) "__class__" == some (some (.builtin "object.__class__"))) && (PySem.W.mroIn K c (.type "object") == some true) && (PySem.W.kitOne K (.ref c) (.type "ValueError") == some true))
  && (List.range cs.length).all fun i => (List.range cs.length).all fun j => PySem.W.kitOne K (.ref (cs.getD i 0)) (.ref (cs.getD j 0)) == some (decide (j = i))
def errNames : List Str := ["NoBook", "NoOrder", "NoName", "NoWish", "NoNumber", "NotMade", "TooShort", "Nothing"]
structure ErrX (K : PySem.W.Frag) (mg : Str → Option Value) (cs : List Addr) (L : Addr) : Prop where
  len : cs.length = 8
  like : XCls K mg "LikeError" L
  at_ : ∀ i, i < 8 → XCls K mg (errNames.getD i ⟨#[]⟩) (cs.getD i 0) ∧ XLook K (cs.getD i 0) ∧ subOf K (cs.getD i 0) L = true ∧ PySem.W.kitOne K (.ref (cs.getD i 0)) (.type "ValueError") = some true
  kit : ∀ i j, i < 8 → j < 8 → PySem.W.kitOne K (.ref (cs.getD i 0)) (.ref (cs.getD j 0)) = some (decide (j = i))
theorem errs_mk {K : PySem.W.Frag} {mg : Str → Option Value} {c0 c1 c2 c3 c4 c5 c6 c7 L : Addr} (b0 : mg "NoBook" = some (.ref c0)) (b1 : mg "NoOrder" = some (.ref c1)) (b2 : mg "NoName" = some (.ref c2)) (b3 : mg "NoWish" = some (.ref c3)) (b4 : mg "NoNumber" = some (.ref c4))
    (b5 : mg "NotMade" = some (.ref c5)) (b6 : mg "TooShort" = some (.ref c6)) (b7 : mg "Nothing" = some (.ref c7)) (bL : mg "LikeError" = some (.ref L)) (h : errOk K [c0, c1, c2, c3, c4, c5, c6, c7] L = true) : ErrX K mg [c0, c1, c2, c3, c4, c5, c6, c7] L := by
  unfold errOk at h
  simp only [Bool.and_eq_true, List.all_eq_true, beq_iff_eq] at h
  obtain ⟨⟨hL, hc⟩, hk⟩ := h
  refine ⟨rfl, ⟨bL, hL⟩, fun i hi => ?_, fun i j hi hj => hk i (List.mem_range.mpr hi) j (List.mem_range.mpr hj)⟩
  have hm : ([c0, c1, c2, c3, c4, c5, c6, c7].getD i 0) ∈ [c0, c1, c2, c3, c4, c5, c6, c7] := by
    have hi' : i < [c0, c1, c2, c3, c4, c5, c6, c7].length := hi
    rw [List.getD_eq_getElem?_getD, List.getElem?_eq_getElem hi']
    exact List.getElem_mem hi'
  obtain ⟨⟨⟨⟨⟨⟨h1, h2⟩, h3⟩, h4⟩, h5⟩, h6⟩, h7⟩ := hc _ hm
  refine ⟨⟨?_, h1⟩, ⟨h1, h3, h4, h5, h6⟩, h2, h7⟩
  match i, hi with
  | 0, _ => exact b0
  | 1, _ => exact b1
  | 2, _ => exact b2
  | 3, _ => exact b3
  | 4, _ => exact b4
  | 5, _ => exact b5
  | 6, _ => exact b6
  | 7, _ => exact b7
theorem errs_top {K : PySem.W.Frag} {c0 c1 c2 c3 c4 c5 c6 c7 L : Addr} (b0 : PySem.W.nsIn K mainGlobals "NoBook" = some (some (.ref c0))) (b1 : PySem.W.nsIn K mainGlobals "NoOrder" = some (some (.ref c1))) (b2 : PySem.W.nsIn K mainGlobals "NoName" = some (some (.ref c2))) (b3 : PySem.W.nsIn K mainGlobals "NoWish" = some (some (.ref c3)))
    (b4 : PySem.W.nsIn K mainGlobals "NoNumber" = some (some (.ref c4))) (b5 : PySem.W.nsIn K mainGlobals "NotMade" = some (some (.ref c5))) (b6 : PySem.W.nsIn K mainGlobals "TooShort" = some (some (.ref c6))) (b7 : PySem.W.nsIn K mainGlobals "Nothing" = some (some (.ref c7))) (bL : PySem.W.nsIn K mainGlobals "LikeError" = some (some (.ref L)))
    (h : errOk K [c0, c1, c2, c3, c4, c5, c6, c7] L = true) : ∃ cs L, ∀ (h : Heap) (mg : Str → Option Value), K.In h → h.Ns mainGlobals mg → ErrX K mg cs L :=
  ⟨_, _, fun hp mg X G => errs_mk (PySem.W.mg_of X G b0) (PySem.W.mg_of X G b1) (PySem.W.mg_of X G b2) (PySem.W.mg_of X G b3) (PySem.W.mg_of X G b4) (PySem.W.mg_of X G b5) (PySem.W.mg_of X G b6) (PySem.W.mg_of X G b7) (PySem.W.mg_of X G bL) h⟩
section
variable {P : Program} {w : World} {K : PySem.W.Frag} {mg : Str → Option Value} {base : Heap}
def RefT (H : Hp) (p : Addr) (j : Nat) : Prop := H p = some (.tup [.str "refused", .int j])
def spRefused (cs : List Addr) : Sp := fun vs H Q _ => ∃ (e : Addr) (j : Nat), vs = [.ref e] ∧ j < 8 ∧ H e = some (XO e (cs.getD j 0)) ∧ ∀ p H', Same H H' → H p = none → RefT H' p j → Q (.ref p) H'
abbrev sRefused : Stmt := top 44
theorem scRefused : FnScope ["_law_e", "_law_flags"] ["_law_e"] (defScope sRefused) := ⟨rfl, rfl, rfl, by decide +kernel, rfl, by decide +kernel, by decide +kernel⟩
structure BltE (mg : Str → Option Value) : Prop where
  isinstance : mg "isinstance" = none
  ve : mg "ValueError" = none
def flags (j : Nat) : List Bool := [decide (0 = j), decide (1 = j), decide (2 = j), decide (3 = j), decide (4 = j), decide (5 = j), decide (6 = j), decide (7 = j)]
theorem flags_ok {j : Nat} (h : j < 8) : (flags j).count true = 1 ∧ (flags j)[j]? = some true ∧ ∀ i, i < j → (flags j)[i]? ≠ some true := by
  have all : ∀ d : _root_.Fin 8, (flags d.val).count true = 1 ∧ (flags d.val)[d.val]? = some true ∧ ∀ i : _root_.Fin 8, i < d → (flags d.val)[i.val]? ≠ some true := by decide +kernel
  obtain ⟨a, b, c⟩ := all ⟨j, h⟩
  exact ⟨a, b, fun i hi => c ⟨i, by omega⟩ hi⟩
theorem ok_refused {f : Addr} {fd : FuncData} {cs : List Addr} {L : Addr} (F : Fun K "_law_refused" "_law_refused" sRefused f fd) (B : BltE mg) (E : ErrX K mg cs L) : FnB P w K mg base CX0 1 f fd ["_law_e"] (spRefused cs) := by
  have g : ∀ i (hi : i < 8), mg (errNames.getD i ⟨#[]⟩) = some (.ref (cs.getD i 0)) := fun i hi => (E.at_ i hi).1.bound
  refine F.okB scRefused (fun vs H Q E h => ?_) (fun cdv A outer s H vs Q E' hr h => ?_)
  · obtain ⟨e, j, rfl, _⟩ := h; rfl
  · obtain ⟨e, j, rfl, hj, he, k⟩ := h
    have nd := scRefused.nd
    refine ⟨_, pss_cons (ps_set (i := 1) nd rfl (Or.inl rfl) (pe_lst (pa_cons (pe_callB call_isinstX (by rfl) B.isinstance PyProof.Rows.boot_isinstance (pa_cons (pv 0) (pa_cons (pe_glob (v := .ref (cs.getD 0 0)) (by rfl) (g 0 (by decide)) rfl) pa_nil)))
        (pa_cons (pe_callB call_isinstX (by rfl) B.isinstance PyProof.Rows.boot_isinstance (pa_cons (pv 0) (pa_cons (pe_glob (v := .ref (cs.getD 1 0)) (by rfl) (g 1 (by decide)) rfl) pa_nil)))
        (pa_cons (pe_callB call_isinstX (by rfl) B.isinstance PyProof.Rows.boot_isinstance (pa_cons (pv 0) (pa_cons (pe_glob (v := .ref (cs.getD 2 0)) (by rfl) (g 2 (by decide)) rfl) pa_nil))) pa_nil)))))
      (pss_cons (ps_set (i := 1) nd rfl (Or.inl rfl) (pe_op op_cat (pv 1) (pe_lst (pa_cons (pe_callB call_isinstX (by rfl) B.isinstance PyProof.Rows.boot_isinstance (pa_cons (pv 0) (pa_cons (pe_glob (v := .ref (cs.getD 3 0)) (by rfl) (g 3 (by decide)) rfl) pa_nil)))
        (pa_cons (pe_callB call_isinstX (by rfl) B.isinstance PyProof.Rows.boot_isinstance (pa_cons (pv 0) (pa_cons (pe_glob (v := .ref (cs.getD 4 0)) (by rfl) (g 4 (by decide)) rfl) pa_nil)))
        (pa_cons (pe_callB call_isinstX (by rfl) B.isinstance PyProof.Rows.boot_isinstance (pa_cons (pv 0) (pa_cons (pe_glob (v := .ref (cs.getD 5 0)) (by rfl) (g 5 (by decide)) rfl) pa_nil))) pa_nil))))))
      (pss_cons (ps_set (i := 1) nd rfl (Or.inl rfl) (pe_op op_cat (pv 1) (pe_lst (pa_cons (pe_callB call_isinstX (by rfl) B.isinstance PyProof.Rows.boot_isinstance (pa_cons (pv 0) (pa_cons (pe_glob (v := .ref (cs.getD 6 0)) (by rfl) (g 6 (by decide)) rfl) pa_nil)))
        (pa_cons (pe_callB call_isinstX (by rfl) B.isinstance PyProof.Rows.boot_isinstance (pa_cons (pv 0) (pa_cons (pe_glob (v := .ref (cs.getD 7 0)) (by rfl) (g 7 (by decide)) rfl) pa_nil))) pa_nil)))))
      (pss_cons (ps_if (PW.pt (pw_or (pt_cmpR op_ne (pe_bm PySem.F.plainAttrs_list PySem.F.slot_list_count PySem.F.type_list_count mt_countB (pv 1) (pa_cons pe_bl pa_nil)) pe_int (nomark _))
          (pw_or1 (pt_not (pt_val (pe_callB call_isinstX (by rfl) B.isinstance PyProof.Rows.boot_isinstance (pa_cons (pv 0) (pa_cons (pe_bltn (v := .ty "ValueError") (by rfl) B.ve PyProof.Rows.Boot.«ValueError» rfl) pa_nil)))))))) (pss_one (ps_ret (pe_tup (pa_cons pe_str (pa_cons (pe_un un_neg pe_int) pa_nil))))) pss_nil)
      (pss_one (ps_ret (pe_tup (pa_cons pe_str (pa_cons (pe_bm PySem.F.plainAttrs_list PySem.F.slot_list_index PySem.F.type_list_index mt_indexB (pv 1) (pa_cons pe_bl pa_nil)) pa_nil)))))))), ?_⟩
    have kit : ∀ i, i < 8 → PySem.W.kitOne K (.ref (cs.getD j 0)) (.ref (cs.getD i 0)) = some (decide (i = j)) := fun i hi => E.kit j i hj hi
    have lk := (E.at_ j hj).2.1
    refine ⟨_, rfl, e, _, _, _, rfl, he, lk, .inl ⟨_, rfl, kit 0 (by decide)⟩, _, rfl, e, _, _, _, rfl, he, lk, .inl ⟨_, rfl, kit 1 (by decide)⟩, _, rfl, e, _, _, _, rfl, he, lk, .inl ⟨_, rfl, kit 2 (by decide)⟩, ?_⟩
    refine ⟨by show 3 ≤ sizeLine; decide, fun p1 hp1 => ?_⟩
    have t1 := Same.upd1 (o := .lst [V.bl (decide (0 = j)), V.bl (decide (1 = j)), V.bl (decide (2 = j))]) hp1
    refine ⟨_, rfl, _, rfl, e, _, _, _, rfl, t1 _ _ he, lk, .inl ⟨_, rfl, kit 3 (by decide)⟩, _, rfl, e, _, _, _, rfl, t1 _ _ he, lk, .inl ⟨_, rfl, kit 4 (by decide)⟩, _, rfl, e, _, _, _, rfl, t1 _ _ he, lk, .inl ⟨_, rfl, kit 5 (by decide)⟩, ?_⟩
    refine ⟨by show 3 ≤ sizeLine; decide, fun p2 hp2 => ?_⟩
    have t2 := Same.upd1 (o := .lst [V.bl (decide (3 = j)), V.bl (decide (4 = j)), V.bl (decide (5 = j))]) hp2
    refine ⟨p1, p2, _, _, rfl, rfl, t2 _ _ upd_same, upd_same, by show 6 ≤ sizeLine; decide, fun p3 hp3 => ?_⟩
    have t3 := Same.upd1 (o := .lst ([V.bl (decide (0 = j)), V.bl (decide (1 = j)), V.bl (decide (2 = j))] ++ [V.bl (decide (3 = j)), V.bl (decide (4 = j)), V.bl (decide (5 = j))])) hp3
    have s3 := (t1.trans t2).trans t3
    refine ⟨_, rfl, _, rfl, e, _, _, _, rfl, s3 _ _ he, lk, .inl ⟨_, rfl, kit 6 (by decide)⟩, _, rfl, e, _, _, _, rfl, s3 _ _ he, lk, .inl ⟨_, rfl, kit 7 (by decide)⟩, ?_⟩
    refine ⟨by show 2 ≤ sizeLine; decide, fun p4 hp4 => ?_⟩
    have t4 := Same.upd1 (o := .lst [V.bl (decide (6 = j)), V.bl (decide (7 = j))]) hp4
    refine ⟨p3, p4, _, _, rfl, rfl, t4 _ _ upd_same, upd_same, by show 8 ≤ sizeLine; decide, fun p5 hp5 => ?_⟩
    have t5 := Same.upd1 (o := .lst ((flags j).map V.bl)) hp5
    have s5 := (s3.trans t4).trans t5
    obtain ⟨f1, f2, f3⟩ := flags_ok hj
    have h5 : ∀ {Hx : Hp}, upd Hx p5 (.lst ([V.bl (decide (0 = j)), V.bl (decide (1 = j)), V.bl (decide (2 = j))] ++ [V.bl (decide (3 = j)), V.bl (decide (4 = j)), V.bl (decide (5 = j))] ++ [V.bl (decide (6 = j)), V.bl (decide (7 = j))])) p5 = some (.lst ((flags j).map V.bl)) := fun {Hx} => by rw [upd_same]; rfl
    refine ⟨_, rfl, .inl ⟨rfl, _, .of h5⟩, p5, flags j, true, rfl, rfl, h5, rfl, _, rfl, iteNS (by rw [f1]; rfl) ?_⟩
    refine ⟨_, rfl, e, _, _, true, rfl, s5 _ _ he, lk, .inr ⟨_, rfl, (E.at_ j hj).2.2.2⟩, true, rfl, iteF ?_⟩
    refine ⟨_, rfl, .inl ⟨rfl, _, .of h5⟩, p5, flags j, true, j, rfl, rfl, h5, f2, f3, by omega, by show 2 ≤ sizeLine; decide, fun p6 hp6 => ?_⟩
    exact k p6 _ (s5.upd_new (s5.free hp6)) (s5.free hp6) upd_same
end
end Kn
end
section
set_option Elab.async false
set_option linter.all false
set_option maxRecDepth 100000
set_option maxHeartbeats 1000000
namespace Kn
open PySem L2
def risT (l : List S) : Bool := (l.zip (l.drop 1)).all fun p => decide (p.1 < p.2)
def isEdgeD (d : PyData) : Bool := match d with
  | .str x => decide (x.length = 0) || (isNameD (.str x) && decide (x.length ≤ 3))
  | _ => false
def txtD : PyData → S
  | .str x => x.cps.toList
  | _ => []
def isBarredD : PyData → Bool
  | .tuple ds => decide (ds.length ≤ 6) && (ds.all isNameD && risT (ds.map txtD))
  | _ => false
def isBoolD : PyData → Bool
  | .bool _ => true
  | _ => false
def intD : PyData → Int
  | .int i => i
  | _ => 0
def isWishD : PyData → Bool
  | .tuple [a, b, h, t, ba, to] => (isWholeD 1 8 a && isWholeD (intD a) 8 b) && ((isEdgeD h && isEdgeD t) && (isBarredD ba && isBoolD to))
  | _ => false
section
variable {P : Program} {w : World} {K : PySem.W.Frag} {mg : Str → Option Value} {base : Heap}
structure CstW (mg : Str → Option Value) : Prop where
  least : ∃ t, mg "LEAST" = some (.int 0 t)
  most : ∃ t, mg "MOST" = some (.int 1 t)
  head : ∃ t, mg "HEAD" = some (.int 2 t)
  tail : ∃ t, mg "TAIL" = some (.int 3 t)
  barred : ∃ t, mg "BARRED" = some (.int 4 t)
  told : ∃ t, mg "TOLD" = some (.int 5 t)
  parts : ∃ t, mg "MANY_PARTS" = some (.int 6 t)
  edge : ∃ t, mg "MOST_EDGE" = some (.int 3 t)
  mb : ∃ t, mg "MOST_BARRED" = some (.int 6 t)
def spRisT : Sp := fun vs H Q _ => ∃ (a : Addr) (l : List S), vs = [.ref a] ∧ H a = some (.tup (bkV l)) ∧ l.length ≤ 100 ∧ ∀ H', Same H H' → Q (.bl (risT l)) H'
abbrev sRising : Stmt := top 17
theorem scRising : FnScope ["things"] ["things"] (defScope sRising) := ⟨rfl, rfl, rfl, by decide +kernel, rfl, by decide +kernel, by decide +kernel⟩
theorem ndRi : (["one", "other"] : List Str).Nodup := by decide +kernel
theorem bkV_cut1 (l : List S) : cutV (bkV l) (some 1) none = bkV (l.drop 1) := by
  unfold cutV
  have e : HT.sIx (bkV l).length 0 (some 1) = min 1 (bkV l).length := HT.sIx_nat _ _ 1
  have e2 : HT.sIx (bkV l).length (bkV l).length none = (bkV l).length := rfl
  rw [e, e2]
  unfold bkV
  rw [List.map_drop, List.length_map]
  cases l with
  | nil => rfl
  | cons x l =>
    rw [List.length_cons, Nat.min_eq_left (by omega)]
    rw [List.take_of_length_le (by rw [List.length_drop, List.length_map, List.length_cons]; omega)]
theorem bkV_get {l : List S} {i : Nat} {v : V} (h : (bkV l)[i]? = some v) : ∃ x, l[i]? = some x ∧ v = sv x := by
  unfold bkV at h
  rw [List.getElem?_map] at h
  cases e : l[i]? with
  | none => rw [e] at h; cases h
  | some x => rw [e] at h; exact ⟨x, rfl, (Option.some.inj h).symm⟩
theorem ok_rising {f : Addr} {fd : FuncData} (F : Fun K "is_rising" "is_rising" sRising f fd) (B : Blt mg) (hz : mg "zip" = none) : FnOk P w K mg base CX0 1 f fd ["things"] spRisT := by
  refine F.ok scRising (fun vs H Q E h => ?_) (fun cdv A outer s H vs Q E hr h => ?_)
  · obtain ⟨a, l, rfl, _⟩ := h; rfl
  · obtain ⟨a, l, rfl, ha, h100, k⟩ := h
    refine ⟨_, pss_one (ps_ret (pe_callB (call_all rfl) (by rfl) B.all PyProof.Rows.boot_all (pa_cons (pe_comp (N := ["one", "other"]) (caps := []) rfl (compScope_of (by kernel_rfl)) (pi_zipT rfl hz (pa_cons (pv 0) (pa_cons (pe_slice sl_tupA (pv 0) (po_some pe_int) po_none) pa_nil)))
        (fun cl C s H ex => pg_tupK K 2 rfl rfl (pgs_cons (pg_name (i := 0) ndRi rfl (Or.inl rfl)) (pgs_cons (pg_name (i := 1) ndRi rfl (Or.inl rfl)) pgs_nil)) rfl rfl)
        (fun cl C s H ex => pf_nil)
        (fun cl C s H ex => pe_cmpR op_lt_str (pv 0) (pv 1) (nomark _))) pa_nil))), ?_⟩
    refine ⟨_, rfl, _, rfl, _, rfl, a, _, rfl, ha, fun b H1 t1 hb1 => ?_⟩
    rw [bkV_cut1] at hb1
    have ha1 := t1 _ _ ha
    refine ⟨a, b, _, _, rfl, .of ha1, .of hb1, ?_⟩
    have dl : (l.drop 1).length = l.length - 1 := by rw [List.length_drop]
    have bl : ∀ l : List S, (bkV l).length = l.length := fun l => by unfold bkV; rw [List.length_map]
    refine comp_pairs (J := Itzz K a b) (xs := bkV l) (ys := bkV (l.drop 1)) (len := (l.drop 1).length) (Hk := fun H' => SqT K H' a (bkV l) ∧ SqT K H' b (bkV (l.drop 1)))
      (fun i H' hk hi => ⟨bkV l, bkV (l.drop 1), (bkV l)[i]'(by rw [bl]; omega), (bkV (l.drop 1))[i]'(by rw [bl]; exact hi), hk.1, hk.2, List.getElem?_eq_getElem _, List.getElem?_eq_getElem _⟩)
      (fun i H' hk e => ⟨bkV l, bkV (l.drop 1), hk.1, hk.2, by rw [bl, bl]; omega⟩)
      (fun i H' x H'' hk ⟨T, x1, y1, e1, e2, e3, e4, e5⟩ => ⟨T, x1, y1, e1, e2, e3, e4 _ hk.1, e5 _ hk.2⟩)
      [] 2 (by omega) (fun i acc H' => Same H1 H' ∧ acc = (((l.zip (l.drop 1)).take i).map fun p => decide (p.1 < p.2)).map V.bl)
      ⟨Same.refl _, rfl⟩ (fun i acc H' hi h => ⟨⟨.of (h.1 _ _ ha1), .of (h.1 _ _ hb1)⟩, by rw [h.2, List.length_map, List.length_map, List.length_take]; omega⟩) ?_ ?_
    · rintro i x y T acc H' zs Nx hN hx hy hz' ⟨sm, rfl⟩ hT
      obtain ⟨z1, z2, rfl⟩ := ys2 hz'
      obtain ⟨n1, e1, rfl⟩ := bkV_get hx
      obtain ⟨n2, e2, rfl⟩ := bkV_get hy
      have t2 : Same H' (upd H' T (.tup [sv n1, sv n2])) := Same.upd1 hT
      refine ⟨T, _, rfl, .of upd_same, rfl, _, _, rfl, _, _, rfl, rfl, ?_⟩
      unfold tYes
      dsimp only
      rw [if_pos rfl]
      refine ⟨_, rfl, _, rfl, _, _, rfl, rfl, hN _ _ [_, _] rfl ⟨sm.trans t2, ?_⟩⟩
      have ez : (l.zip (l.drop 1))[i]? = some (n1, n2) := by
        rw [List.getElem?_zip_eq_some]; exact ⟨e1, e2⟩
      rw [List.take_succ_eq_append_getElem (List.getElem?_eq_some_iff.mp ez).1, (List.getElem?_eq_some_iff.mp ez).2, List.map_append, List.map_append]
      rfl
    · rintro acc H' ⟨sm, rfl⟩ D hD
      have e : (l.zip (l.drop 1)).take (l.drop 1).length = l.zip (l.drop 1) := List.take_of_length_le (by rw [List.length_zip]; omega)
      rw [e]
      refine ⟨D, (l.zip (l.drop 1)).map fun p => decide (p.1 < p.2), rfl, .of upd_same, ?_⟩
      have e3 : ((l.zip (l.drop 1)).map fun p => decide (p.1 < p.2)).all id = risT l := by unfold risT; rw [List.all_map]; rfl
      rw [e3]
      exact k _ ((t1.trans sm).upd_new ((t1.trans sm).free hD))
def spEdge : Sp := fun vs H Q _ => ∃ v d, vs = [v] ∧ Thg H d v ∧ sml d = true ∧ SeqAt.shaped d = true ∧ ∀ H', Same H H' → Q (.bl (isEdgeD d)) H'
abbrev sEdge : Stmt := top 30
theorem scEdge : FnScope ["thing"] ["thing"] (defScope sEdge) := ⟨rfl, rfl, rfl, by decide +kernel, rfl, by decide +kernel, by decide +kernel⟩
theorem str_empty {x : Str} : PyData.eqv (.str x) (.str ⟨#[]⟩) = decide (x.length = 0) := by
  unfold PyData.eqv
  by_cases h : x.length = 0
  · have : x = ⟨#[]⟩ := MyS.Str_ext (by
      have h' : x.cps.toList.length = 0 := by simpa [Str.length] using h
      rw [List.length_eq_zero_iff.mp h'])
    subst this
    rfl
  · rw [decide_eq_false h]
    rw [beq_eq_false_iff_ne]
    intro e
    subst e
    exact h rfl
theorem eqv_other {d : PyData} (h : ∀ x, d ≠ .str x) : PyData.eqv d (.str ⟨#[]⟩) = false := by
  cases d with
  | str x => exact absurd rfl (h x)
  | _ => rfl
theorem empty_shaped : SeqAt.shaped (.str ⟨#[]⟩) = true := by decide +kernel
theorem ok_edge {f : Addr} {fd : FuncData} (F : Fun K "is_edge" "is_edge" sEdge f fd) (B : Blt mg) (W : CstW mg) (cN : Cal P w K mg base 1 "is_name" ["thing"] spIsNameT) : FnOk P w K mg base CX0 2 f fd ["thing"] spEdge := by
  obtain ⟨t3, h3⟩ := W.edge
  refine F.ok scEdge (fun vs H Q E h => ?_) (fun cdv A outer s H vs Q E hr h => ?_)
  · obtain ⟨v, d, rfl, _⟩ := h; rfl
  · obtain ⟨v, d, rfl, hv, hs, hsh, k⟩ := h
    refine ⟨_, pss_one (ps_ret (pe_or (pe_cmpR (op_eqD hr.units) (pv 0) pe_str (nomark _)) (pe_one (pe_and (pe_cal cN hr rfl (pa_cons (pv 0) pa_nil)) (pe_one (pe_cmpR op_le (pe_callB call_len_str (by rfl) B.len PySem.boot_len (pa_cons (pv 0) pa_nil)) (pe_glob (v := .int 3) (by rfl) h3 ⟨_, rfl⟩) (nomark _))))))), ?_⟩
    refine ⟨_, rfl, d, .str ⟨#[]⟩, Thg.rep _ _ hv, rfl, hsh, empty_shaped, _, rfl, ?_⟩
    rw [show (if false = true then !PyData.eqv d (.str ⟨#[]⟩) else PyData.eqv d (.str ⟨#[]⟩)) = PyData.eqv d (.str ⟨#[]⟩) from rfl]
    cases d with
    | str x =>
      rw [str_empty]
      by_cases h0 : x.length = 0
      · have e : isEdgeD (.str x) = true := by simp [isEdgeD, h0]
        rw [e] at k
        exact iteD h0 (k H (Same.refl H))
      · refine iteDF h0 ?_
        refine ⟨_, rfl, v, _, rfl, hv, hs, fun H' sm => ?_⟩
        cases (show v = .str x from hv)
        refine ⟨_, rfl, ?_⟩
        cases hn : isNameD (.str x) with
        | false =>
          have e : isEdgeD (.str x) = false := by simp [isEdgeD, h0, hn]
          rw [e] at k
          exact iteF (k H' sm)
        | true =>
          refine iteT ?_
          refine ⟨_, rfl, x, rfl, ?_, _, _, rfl, rfl, ?_⟩
          · simp only [sml, Bool.and_eq_true, decide_eq_true_eq] at hs
            rw [sizeLine_eq]; omega
          · have e : isEdgeD (.str x) = decide (x.length ≤ 3) := by simp [isEdgeD, h0, hn]
            have e2 : decide ((x.length : Int) ≤ 3) = decide (x.length ≤ 3) := decide_eq_decide.mpr (by omega)
            rw [e, ← e2] at k
            exact k H' sm
    | _ =>
      rw [eqv_other (by intro x; simp)]
      refine iteF ⟨_, rfl, v, _, rfl, hv, hs, fun H' sm => ⟨_, rfl, iteF (k H' sm)⟩⟩
def spBarred : Sp := fun vs H Q _ => ∃ v d, vs = [v] ∧ Thg H d v ∧ sml d = true ∧ ∀ H', Same H H' → Q (.bl (isBarredD d)) H'
abbrev sBarred : Stmt := top 31
theorem scBarred : FnScope ["thing"] ["thing"] (defScope sBarred) := ⟨rfl, rfl, rfl, by decide +kernel, rfl, by decide +kernel, by decide +kernel⟩
theorem ndBa : (["name"] : List Str).Nodup := by decide +kernel
theorem names_inv : ∀ {ds : List PyData}, (∀ d ∈ ds, isNameD d = true) → ∃ bk : List S, ds = bk.map (fun x => PyData.str (tx x)) ∧ ∀ x ∈ bk, isNm x
  | [], _ => ⟨[], rfl, by simp⟩
  | d :: ds, hd => by
    obtain ⟨x, rfl, hx⟩ := isNameD_inv (hd d (List.mem_cons_self ..))
    obtain ⟨bk, rfl, hb⟩ := names_inv fun e he => hd e (List.mem_cons_of_mem _ he)
    refine ⟨x :: bk, rfl, fun y hy => ?_⟩
    rcases List.mem_cons.mp hy with z | z
    · rw [z]; exact hx
    · exact hb y z
theorem ok_barred {f : Addr} {fd : FuncData} (F : Fun K "is_barred" "is_barred" sBarred f fd) (B : Blt mg) (KF : KitF K) (W : CstW mg) (cN : Cal P w K mg base 1 "is_name" ["thing"] spIsNameT) (cR : Cal P w K mg base 1 "is_rising" ["things"] spRisT) : FnOk P w K mg base CX0 2 f fd ["thing"] spBarred := by
  obtain ⟨t6, h6⟩ := W.mb
  refine F.ok scBarred (fun vs H Q E h => ?_) (fun cdv A outer s H vs Q E hr h => ?_)
  · obtain ⟨v, d, rfl, _⟩ := h; rfl
  · obtain ⟨v, d, rfl, hv, hs, k⟩ := h
    refine ⟨_, pss_cons (ps_if (PW.pt (pw_or (pt_not (pt_val (pe_callB call_isinst (by rfl) B.isinstance PyProof.Rows.boot_isinstance (pa_cons (pv 0) (pa_cons (pe_bltn (v := .ty "tuple") (by rfl) B.tuple PyProof.Rows.boot_tuple rfl) pa_nil)))))
        (pw_or1 (pt_cmpR op_gt (pe_callB call_len_seq (by rfl) B.len PySem.boot_len (pa_cons (pv 0) pa_nil)) (pe_glob (v := .int 6) (by rfl) h6 ⟨_, rfl⟩) (nomark _)))))
        (pss_one (ps_ret pe_bl)) pss_nil)
      (pss_one (ps_ret (pe_and (pe_callB (call_all rfl) (by rfl) B.all PyProof.Rows.boot_all (pa_cons (pe_comp (N := ["name"]) (caps := []) rfl (compScope_of (by kernel_rfl)) (pi_tup (pv 0))
        (fun cl C s H ex => pg_name (i := 0) ndBa rfl (Or.inl rfl)) (fun cl C s H ex => pf_nil)
        (fun cl C s H ex => pe_cal cN hr rfl (pa_cons (pv 0) pa_nil))) pa_nil)) (pe_one (pe_cal cR hr rfl (pa_cons (pv 0) pa_nil)))))), ?_⟩
    obtain ⟨t, b, hty, hkit, hb⟩ := ty_tup KF hv
    refine ⟨_, rfl, _, _, t, b, rfl, hty, hkit, b, rfl, ?_⟩
    cases b with
    | false =>
      have hd : isBarredD d = false := by
        cases d with
        | tuple x => exact absurd (hb.mpr ⟨x, rfl⟩) (by decide)
        | _ => rfl
      rw [hd] at k
      exact iteT (iteT (k H (Same.refl H)))
    | true =>
      obtain ⟨ds, rfl⟩ := hb.mp rfl
      obtain ⟨a, xs, rfl, ha, hxs⟩ := hv
      have hsx : ds.length ≤ 900 ∧ smls ds = true := by
        simp only [sml, Bool.and_eq_true, decide_eq_true_eq] at hs
        exact hs
      have hxl : xs.length = ds.length := hxs.length.symm
      refine iteF ?_
      refine ⟨_, rfl, _, _, rfl, .inr (.of ha), _, _, rfl, rfl, _, rfl, ?_⟩
      by_cases h2 : ds.length ≤ 6
      · refine iteDF (by rw [hxl]; omega) ?_
        refine ⟨_, rfl, a, rfl, ⟨_, .of ha⟩, ?_⟩
        refine comp_known0 (known_tup _ a xs) [] 1 (by omega) (fun i acc H' => Same H H' ∧ acc = ((ds.take i).map isNameD).map V.bl) ⟨Same.refl H, rfl⟩ (fun i acc H' _ h => ⟨.of (h.1 _ _ ha), by rw [h.2, List.length_map, List.length_map, List.length_take]; omega⟩) ?_ ?_
        · rintro i y acc H' ys Nx hN hx hy ⟨sm, rfl⟩
          obtain ⟨y', rfl⟩ := ys1 hy
          obtain ⟨e, he, hye⟩ := hxs.get hx
          have hi : i < ds.length := (List.getElem?_eq_some_iff.mp he).1
          refine ⟨_, rfl, y, e, rfl, Thg.same sm _ _ hye, smls_mem hsx.2 (List.mem_of_getElem? he), fun H5 sm5 => hN _ _ [some y] rfl ⟨sm.trans sm5, ?_⟩⟩
          rw [List.take_succ_eq_append_getElem hi, (List.getElem?_eq_some_iff.mp he).2, List.map_append, List.map_append]; rfl
        · rintro acc H' ⟨sm, rfl⟩ D hD
          rw [hxl, List.take_length]
          refine ⟨D, _, rfl, .of upd_same, _, rfl, ?_⟩
          have sm2 := sm.upd_new (o := .lst ((ds.map isNameD).map V.bl)) (sm.free hD)
          have e2 : ((ds.map isNameD).all id) = ds.all isNameD := by rw [List.all_map]; rfl
          rw [e2]
          cases hn : ds.all isNameD with
          | false =>
            have e : isBarredD (.tuple ds) = false := by simp only [isBarredD, hn, Bool.false_and, Bool.and_false]
            rw [e] at k
            exact iteF (k _ sm2)
          | true =>
            obtain ⟨bk, rfl, hbk⟩ := names_inv (fun d hd => List.all_eq_true.mp hn d hd)
            have ha2 := sm2 _ _ ha
            rw [Thgs.strs_inv hxs] at ha2
            refine iteT ?_
            rw [List.length_map] at h2
            refine ⟨_, rfl, a, bk, rfl, ha2, by omega, fun H6 sm6 => ?_⟩
            have e : isBarredD (.tuple (bk.map fun x => PyData.str (tx x))) = risT bk := by
              have e3 : (bk.map fun x => PyData.str (tx x)).map txtD = bk := by
                rw [List.map_map]
                conv => rhs; rw [← List.map_id bk]
                refine List.map_congr_left fun x _ => ?_
                show (tx x).cps.toList = x
                rw [tx_cps]
              simp only [isBarredD, hn, e3, List.length_map, decide_eq_true h2, Bool.true_and]
            rw [e] at k
            exact k _ (sm2.trans sm6)
      · have hd : isBarredD (.tuple ds) = false := by simp [isBarredD, h2]
        rw [hd] at k
        exact iteD (by rw [hxl]; omega) (k H (Same.refl H))
end
end Kn
end
section
set_option Elab.async false
set_option linter.all false
set_option maxRecDepth 100000
set_option maxHeartbeats 1000000
namespace Kn
open PySem L2
structure KitB (K : PySem.W.Frag) : Prop where
  nb : PySem.W.kitOne K (.type "NoneType") (.type "bool") = some false
  sb : PySem.W.kitOne K (.type "str") (.type "bool") = some false
  lb : PySem.W.kitOne K (.type "list") (.type "bool") = some false
  tb : PySem.W.kitOne K (.type "tuple") (.type "bool") = some false
theorem canLay_mem : ∀ {ds : List PyData} {d : PyData}, PyData.canLayAll0 ds = true → d ∈ ds → d.canLay0 = true
  | e :: ds, d, h, hm => by
    simp only [PyData.canLayAll0, Bool.and_eq_true] at h
    rcases List.mem_cons.mp hm with z | z
    · rw [z]; exact h.1
    · exact canLay_mem h.2 z
theorem depth_mem : ∀ {ds : List PyData} {d : PyData}, d ∈ ds → d.depth ≤ PyData.depthAll ds
  | e :: ds, d, hm => by
    simp only [PyData.depthAll]
    rcases List.mem_cons.mp hm with z | z
    · rw [z]; omega
    · have := depth_mem z; omega
theorem shaped_part {ds : List PyData} {d : PyData} (h : SeqAt.shaped (.tuple ds) = true) (hm : d ∈ ds) : SeqAt.shaped d = true := by
  have h0 := SeqAt.canLay_of_shaped h
  have h3 := SeqAt.depth_of_shaped h
  have h4 : (PyData.tuple ds).depth = PyData.depthAll ds + 1 := by simp only [PyData.depth]
  have h1 := canLay_mem (show PyData.canLayAll0 ds = true by simpa only [PyData.canLay0] using h0) hm
  have h2 := depth_mem hm
  rw [h4] at h3
  unfold SeqAt.shaped
  rw [h1, decide_eq_true (show d.depth ≤ 64 by omega)]; rfl
section
variable {P : Program} {w : World} {K : PySem.W.Frag} {mg : Str → Option Value} {base : Heap}
theorem ty_bool (KB : KitB K) (C : Cst K mg) {H : Hp} : ∀ {d : PyData} {v : V}, Thg H d v → ∃ t, TyOf K H v t ∧ PySem.W.kitOne K t (.type "bool") = some (isBoolD d)
  | .none, v, h => by cases (show v = .non from h); exact ⟨_, .non, KB.nb⟩
  | .bool b, v, h => by cases (show v = .bl b from h); exact ⟨_, .bl _, rfl⟩
  | .int i, v, h => by cases (show v = .int i from h); exact ⟨_, .int _, C.ib⟩
  | .str x, v, h => by cases (show v = .str x from h); exact ⟨_, .str _, KB.sb⟩
  | .list ds, v, h => by obtain ⟨a, xs, rfl, h1, _⟩ := h; exact ⟨_, .lst h1, KB.lb⟩
  | .tuple ds, v, h => by obtain ⟨a, xs, rfl, h1, _⟩ := h; exact ⟨_, .tup h1, KB.tb⟩
  | .dict _, v, h => h.elim
def spWish : Sp := fun vs H Q _ => ∃ v d, vs = [v] ∧ Thg H d v ∧ sml d = true ∧ SeqAt.shaped d = true ∧ ∀ H', Same H H' → Q (.bl (isWishD d)) H'
abbrev sWish : Stmt := top 32
theorem scWish : FnScope ["thing"] ["thing"] (defScope sWish) := ⟨rfl, rfl, rfl, by decide +kernel, rfl, by decide +kernel, by decide +kernel⟩
theorem wish_len {ds : List PyData} (h : ds.length ≠ 6) : isWishD (.tuple ds) = false := by
  match ds, h with
  | [], _ => rfl
  | [_], _ => rfl
  | [_, _], _ => rfl
  | [_, _, _], _ => rfl
  | [_, _, _, _], _ => rfl
  | [_, _, _, _, _], _ => rfl
  | [_, _, _, _, _, _], h => exact absurd rfl h
  | _ :: _ :: _ :: _ :: _ :: _ :: _ :: _, _ => rfl
theorem six {α : Type} {l : List α} (h : l.length = 6) : ∃ a b c d e f, l = [a, b, c, d, e, f] := by
  match l, h with
  | [a, b, c, d, e, f], _ => exact ⟨a, b, c, d, e, f, rfl⟩
theorem whole_int {a b : Int} {d : PyData} (h : isWholeD a b d = true) : ∃ i, d = .int i ∧ a ≤ i ∧ i ≤ b := by
  cases d with
  | int i => simp only [isWholeD, Bool.and_eq_true, decide_eq_true_eq] at h; exact ⟨i, rfl, h⟩
  | _ => cases h
theorem ok_wish {f : Addr} {fd : FuncData} (F : Fun K "is_wish" "is_wish" sWish f fd) (B : Blt mg) (C : Cst K mg) (KF : KitF K) (KB : KitB K) (W : CstW mg) (cW : Cal P w K mg base 1 "is_whole" ["thing", "least", "most"] spIsWholeT) (cE : Cal P w K mg base 2 "is_edge" ["thing"] spEdge) (cB : Cal P w K mg base 2 "is_barred" ["thing"] spBarred) : FnOk P w K mg base CX0 3 f fd ["thing"] spWish := by
  obtain ⟨u0, h0⟩ := W.least
  obtain ⟨u1, h1⟩ := W.most
  obtain ⟨u2, h2⟩ := W.head
  obtain ⟨u3, h3⟩ := W.tail
  obtain ⟨u4, h4⟩ := W.barred
  obtain ⟨u5, h5⟩ := W.told
  obtain ⟨u6, h6⟩ := W.parts
  obtain ⟨u8, h8⟩ := C.ml
  refine F.ok scWish (fun vs H Q E h => ?_) (fun cdv A outer s H vs Q E hr h => ?_)
  · obtain ⟨v, d, rfl, _⟩ := h; rfl
  · obtain ⟨v, d, rfl, hv, hs, hsh, k⟩ := h
    have r1 := hr.mono (j := 1) (by decide)
    refine ⟨_, pss_cons (ps_if (PW.pt (pw_or (pt_not (pt_val (pe_callB call_isinst (by rfl) B.isinstance PyProof.Rows.boot_isinstance (pa_cons (pv 0) (pa_cons (pe_bltn (v := .ty "tuple") (by rfl) B.tuple PyProof.Rows.boot_tuple rfl) pa_nil)))))
        (pw_or1 (pt_cmpR op_ne (pe_callB call_len_seq (by rfl) B.len PySem.boot_len (pa_cons (pv 0) pa_nil)) (pe_glob (v := .int 6) (by rfl) h6 ⟨_, rfl⟩) (nomark _)))))
        (pss_one (ps_ret pe_bl)) pss_nil)
      (pss_cons (ps_if (PW.pt (pw_or (pt_not (pt_val (pe_cal cW r1 rfl (pa_cons (pe_ix ix_tup (pv 0) (pe_glob (v := .int 0) (by rfl) h0 ⟨_, rfl⟩) (fun _ _ => rfl)) (pa_cons pe_int (pa_cons (pe_glob (v := .int 8) (by rfl) h8 ⟨_, rfl⟩) pa_nil))))))
          (pw_or1 (pt_not (pt_val (pe_cal cW r1 rfl (pa_cons (pe_ix ix_tup (pv 0) (pe_glob (v := .int 1) (by rfl) h1 ⟨_, rfl⟩) (fun _ _ => rfl)) (pa_cons (pe_ix ix_tup (pv 0) (pe_glob (v := .int 0) (by rfl) h0 ⟨_, rfl⟩) (fun _ _ => rfl)) (pa_cons (pe_glob (v := .int 8) (by rfl) h8 ⟨_, rfl⟩) pa_nil)))))))))
        (pss_one (ps_ret pe_bl)) pss_nil)
      (pss_cons (ps_if (PW.pt (pw_or (pt_not (pt_val (pe_cal cE hr rfl (pa_cons (pe_ix ix_tup (pv 0) (pe_glob (v := .int 2) (by rfl) h2 ⟨_, rfl⟩) (fun _ _ => rfl)) pa_nil))))
          (pw_or1 (pt_not (pt_val (pe_cal cE hr rfl (pa_cons (pe_ix ix_tup (pv 0) (pe_glob (v := .int 3) (by rfl) h3 ⟨_, rfl⟩) (fun _ _ => rfl)) pa_nil)))))))
        (pss_one (ps_ret pe_bl)) pss_nil)
      (pss_one (ps_ret (pe_and (pe_cal cB hr rfl (pa_cons (pe_ix ix_tup (pv 0) (pe_glob (v := .int 4) (by rfl) h4 ⟨_, rfl⟩) (fun _ _ => rfl)) pa_nil))
        (pe_one (pe_callB call_isinst (by rfl) B.isinstance PyProof.Rows.boot_isinstance (pa_cons (pe_ix ix_tup (pv 0) (pe_glob (v := .int 5) (by rfl) h5 ⟨_, rfl⟩) (fun _ _ => rfl)) (pa_cons (pe_bltn (v := .ty "bool") (by rfl) B.bool PyProof.Rows.boot_bool rfl) pa_nil))))))))), ?_⟩
    obtain ⟨t, b, hty, hkit, hb⟩ := ty_tup KF hv
    refine ⟨_, rfl, _, _, t, b, rfl, hty, hkit, b, rfl, ?_⟩
    cases b with
    | false =>
      have hd : isWishD d = false := by
        cases d with
        | tuple x => exact absurd (hb.mpr ⟨x, rfl⟩) (by decide)
        | _ => rfl
      rw [hd] at k
      exact iteT (iteT (k H (Same.refl H)))
    | true =>
      obtain ⟨ds, rfl⟩ := hb.mp rfl
      obtain ⟨a, xs, rfl, ha, hxs⟩ := hv
      have hsx : ds.length ≤ 900 ∧ smls ds = true := by
        simp only [sml, Bool.and_eq_true, decide_eq_true_eq] at hs
        exact hs
      have hxl : xs.length = ds.length := hxs.length.symm
      refine iteF ?_
      refine ⟨_, rfl, _, _, rfl, .inr (.of ha), rfl, _, rfl, ?_⟩
      by_cases hl : ds.length = 6
      · refine iteNS (by rw [hxl, hl]; rfl) ?_
        obtain ⟨a0, a1, a2, a3, a4, a5, rfl⟩ := six hl
        obtain ⟨y0, ys0, rfl, q0, hxs⟩ := hxs
        obtain ⟨y1, ys1, rfl, q1, hxs⟩ := hxs
        obtain ⟨y2, ys2, rfl, q2, hxs⟩ := hxs
        obtain ⟨y3, ys3, rfl, q3, hxs⟩ := hxs
        obtain ⟨y4, ys4, rfl, q4, hxs⟩ := hxs
        obtain ⟨y5, ys5, rfl, q5, hxs⟩ := hxs
        cases (show ys5 = [] from hxs)
        have sm_ : ∀ d ∈ [a0, a1, a2, a3, a4, a5], sml d = true := fun d hd => smls_mem hsx.2 hd
        have sh_ : ∀ d ∈ [a0, a1, a2, a3, a4, a5], SeqAt.shaped d = true := fun d hd => shaped_part hsh hd
        refine ⟨_, rfl, a, _, 0, y0, rfl, rfl, .of ha, rfl, y0, a0, 1, 8, rfl, q0, _, rfl, ?_⟩
        cases e0 : isWholeD 1 8 a0 with
        | false =>
          have e : isWishD (.tuple [a0, a1, a2, a3, a4, a5]) = false := by simp only [isWishD, e0, Bool.false_and]
          rw [e] at k
          exact iteT (iteT (k H (Same.refl H)))
        | true =>
        obtain ⟨i0, rfl, l0, l1⟩ := whole_int e0
        cases (show y0 = .int i0 from q0)
        refine iteF ?_
        refine ⟨_, rfl, a, _, 1, y1, rfl, rfl, .of ha, rfl, _, rfl, a, _, 0, .int i0, rfl, rfl, .of ha, rfl, y1, a1, i0, 8, rfl, q1, _, rfl, ?_⟩
        cases e1 : isWholeD i0 8 a1 with
        | false =>
          have e : isWishD (.tuple [.int i0, a1, a2, a3, a4, a5]) = false := by simp only [isWishD, intD, e1, Bool.false_and, Bool.and_false]
          rw [e] at k
          exact iteT (k H (Same.refl H))
        | true =>
        refine iteF ?_
        refine ⟨_, rfl, a, _, 2, y2, rfl, rfl, .of ha, rfl, y2, a2, rfl, q2, sm_ a2 (by simp), sh_ a2 (by simp), fun H1 s1 => ⟨_, rfl, ?_⟩⟩
        cases e2 : isEdgeD a2 with
        | false =>
          have e : isWishD (.tuple [.int i0, a1, a2, a3, a4, a5]) = false := by simp only [isWishD, e2, Bool.false_and, Bool.and_false]
          rw [e] at k
          exact iteT (iteT (k H1 s1))
        | true =>
        refine iteF ?_
        refine ⟨_, rfl, a, _, 3, y3, rfl, rfl, .of (s1 _ _ ha), rfl, y3, a3, rfl, Thg.same s1 _ _ q3, sm_ a3 (by simp), sh_ a3 (by simp), fun H2 s2 => ⟨_, rfl, ?_⟩⟩
        have s12 := s1.trans s2
        cases e3 : isEdgeD a3 with
        | false =>
          have e : isWishD (.tuple [.int i0, a1, a2, a3, a4, a5]) = false := by simp only [isWishD, e3, Bool.false_and, Bool.and_false]
          rw [e] at k
          exact iteT (k H2 s12)
        | true =>
        refine iteF ?_
        refine ⟨_, rfl, a, _, 4, y4, rfl, rfl, .of (s12 _ _ ha), rfl, y4, a4, rfl, Thg.same s12 _ _ q4, sm_ a4 (by simp), fun H3 s3 => ⟨_, rfl, ?_⟩⟩
        have s13 := s12.trans s3
        cases e4 : isBarredD a4 with
        | false =>
          have e : isWishD (.tuple [.int i0, a1, a2, a3, a4, a5]) = false := by simp only [isWishD, e4, Bool.false_and, Bool.and_false]
          rw [e] at k
          exact iteF (k H3 s13)
        | true =>
        refine iteT ?_
        obtain ⟨t5, ht5, hk5⟩ := ty_bool KB C (Thg.same s13 _ _ q5)
        refine ⟨_, rfl, a, _, 5, y5, rfl, rfl, .of (s13 _ _ ha), rfl, _, _, t5, _, rfl, ht5, hk5, ?_⟩
        have e : isWishD (.tuple [.int i0, a1, a2, a3, a4, a5]) = isBoolD a5 := by simp only [isWishD, intD, e0, e1, e2, e3, e4, Bool.true_and]
        rw [e] at k
        exact k H3 s13
      · have e : isWishD (.tuple ds) = false := wish_len hl
        rw [e] at k
        refine ite_nn ?_ (k H (Same.refl H))
        intro z
        injection z with z
        rw [hxl] at z
        omega
end
end Kn
end
section
set_option Elab.async false
set_option linter.all false
set_option maxRecDepth 100000
set_option maxHeartbeats 1000000
namespace Kn
open PySem L2
def wishD (lo hi : Int) (hd tl : S) (ba : List S) (to : Bool) : PyData := .tuple [.int lo, .int hi, .str (tx hd), .str (tx tl), .tuple (ba.map fun x => PyData.str (tx x)), .bool to]
structure GW (lo hi : Int) (hd tl : S) (ba : List S) : Prop where
  glo : 1 ≤ lo
  gle : lo ≤ hi
  ghi : hi ≤ 8
  ghd : hd = [] ∨ (isNm hd ∧ hd.length ≤ 3)
  gtl : tl = [] ∨ (isNm tl ∧ tl.length ≤ 3)
  len : ba.length ≤ 6
  nm : ∀ x ∈ ba, isNm x
  ris : risT ba = true
theorem edge_inv {d : PyData} (h : isEdgeD d = true) : ∃ x : S, d = .str (tx x) ∧ (x = [] ∨ (isNm x ∧ x.length ≤ 3)) := by
  cases d with
  | str x =>
    simp only [isEdgeD, Bool.or_eq_true, Bool.and_eq_true, decide_eq_true_eq] at h
    rcases h with h | ⟨h, h2⟩
    · refine ⟨[], ?_, .inl rfl⟩
      congr 1
      refine MyS.Str_ext ?_
      have h' : x.cps.toList.length = 0 := by simpa [Str.length] using h
      rw [List.length_eq_zero_iff.mp h']
    · obtain ⟨y, e, hy⟩ := isNameD_inv h
      injection e with e
      subst e
      exact ⟨y, rfl, .inr ⟨hy, by rw [tx_len] at h2; exact h2⟩⟩
  | _ => cases h
theorem barred_inv {d : PyData} (h : isBarredD d = true) : ∃ ba : List S, d = .tuple (ba.map fun x => PyData.str (tx x)) ∧ ba.length ≤ 6 ∧ (∀ x ∈ ba, isNm x) ∧ risT ba = true := by
  cases d with
  | tuple ds =>
    simp only [isBarredD, Bool.and_eq_true, decide_eq_true_eq] at h
    obtain ⟨h1, h2, h3⟩ := h
    obtain ⟨bk, rfl, hb⟩ := names_inv (fun d hd => List.all_eq_true.mp h2 d hd)
    have e3 : (bk.map fun x => PyData.str (tx x)).map txtD = bk := by
      rw [List.map_map]
      conv => rhs; rw [← List.map_id bk]
      refine List.map_congr_left fun x _ => ?_
      show (tx x).cps.toList = x
      rw [tx_cps]
    rw [e3] at h3
    rw [List.length_map] at h1
    exact ⟨bk, rfl, h1, hb, h3⟩
  | _ => cases h
theorem wish_inv {d : PyData} (h : isWishD d = true) : ∃ lo hi hd tl ba to, d = wishD lo hi hd tl ba to ∧ GW lo hi hd tl ba := by
  cases d with
  | tuple ds =>
    by_cases hl : ds.length = 6
    · obtain ⟨a0, a1, a2, a3, a4, a5, rfl⟩ := six hl
      simp only [isWishD, Bool.and_eq_true] at h
      obtain ⟨⟨h0, h1⟩, ⟨h2, h3⟩, h4, h5⟩ := h
      obtain ⟨i0, rfl, l0, l1⟩ := whole_int h0
      obtain ⟨i1, rfl, l2, l3⟩ := whole_int h1
      obtain ⟨x2, rfl, e2⟩ := edge_inv h2
      obtain ⟨x3, rfl, e3⟩ := edge_inv h3
      obtain ⟨ba, rfl, b1, b2, b3⟩ := barred_inv h4
      cases a5 with
      | bool b => exact ⟨i0, i1, x2, x3, ba, b, rfl, ⟨l0, l2, l3, e2, e3, b1, b2, b3⟩⟩
      | _ => cases h5
    · rw [wish_len hl] at h; cases h
  | _ => cases h
def WishAt (H : Hp) (a : Addr) (lo hi : Int) (hd tl : S) (ba : List S) (to : Bool) : Prop := ∃ b, H a = some (.tup [.int lo, .int hi, sv hd, sv tl, .ref b, .bl to]) ∧ H b = some (.tup (bkV ba))
theorem WishAt.same {H H' : Hp} {a : Addr} {lo hi : Int} {hd tl : S} {ba : List S} {to : Bool} (h : WishAt H a lo hi hd tl ba to) (e : Same H H') : WishAt H' a lo hi hd tl ba to :=
  let ⟨b, h1, h2⟩ := h; ⟨b, e _ _ h1, e _ _ h2⟩
theorem thg_wish {H : Hp} {v : V} {lo hi : Int} {hd tl : S} {ba : List S} {to : Bool} (h : Thg H (wishD lo hi hd tl ba to) v) : ∃ a, v = .ref a ∧ WishAt H a lo hi hd tl ba to := by
  obtain ⟨a, xs, rfl, h1, h2⟩ := h
  obtain ⟨y0, ys0, rfl, q0, h2⟩ := h2
  obtain ⟨y1, ys1, rfl, q1, h2⟩ := h2
  obtain ⟨y2, ys2, rfl, q2, h2⟩ := h2
  obtain ⟨y3, ys3, rfl, q3, h2⟩ := h2
  obtain ⟨y4, ys4, rfl, q4, h2⟩ := h2
  obtain ⟨y5, ys5, rfl, q5, h2⟩ := h2
  cases (show ys5 = [] from h2)
  cases (show y0 = .int lo from q0)
  cases (show y1 = .int hi from q1)
  cases (show y2 = .str (tx hd) from q2)
  cases (show y3 = .str (tx tl) from q3)
  cases (show y5 = .bl to from q5)
  obtain ⟨b, xs4, rfl, h4, h5⟩ := q4
  rw [Thgs.strs_inv h5] at h4
  exact ⟨a, rfl, b, h1, h4⟩
def formB (lo hi : Int) (hd tl x : S) : Bool := (decide (lo ≤ (x.length : Int)) && decide ((x.length : Int) ≤ hi)) && (Txt.startswith (tx x) (tx hd) && Txt.endswith (tx x) (tx tl))
def outB (bk ba : List S) (to : Bool) (x : S) : Bool := decide (x ∈ ba) || (!to && decide (x ∈ bk))
def fitsB (bk : List S) (lo hi : Int) (hd tl : S) (ba : List S) (to : Bool) (x : S) : Bool := formB lo hi hd tl x && !outB bk ba to x
theorem mt_startswith {X : Cx} : MtR X "str.startswith" (fun x vs H Q => ∃ a b : Str, x = .str a ∧ vs = [.str b] ∧ Q (.bl (Txt.startswith a b)) H) := by
  intro pins s σ H x vs v us Q I rx rv h
  obtain ⟨a, b, rfl, rfl, q⟩ := h
  obtain ⟨t, rfl⟩ := rx
  obtain ⟨u, rfl, ru⟩ := vals1 rv
  obtain ⟨t', rfl⟩ := ru
  exact SC.startswith ⟨.bl _, H, I, rfl, q⟩
theorem inV_bk (x : S) (l : List S) : inV (sv x) (bkV l) = decide (x ∈ l) := by
  unfold inV bkV
  rw [List.any_map]
  induction l with
  | nil => simp
  | cons y l ih =>
    rw [List.any_cons, ih]
    have e : eqV (sv y) (sv x) = decide (x = y) := by
      show ((tx y) == (tx x)) = _
      by_cases z : x = y
      · subst z; simp
      · rw [decide_eq_false z, beq_eq_false_iff_ne]
        exact fun q => z (tx_inj q).symm
    show (eqV (sv y) (sv x) || _) = _
    rw [e]
    by_cases z : x = y
    · subst z; simp
    · simp [z]
theorem flat_bk (l : List S) : (bkV l).all flatV = true := by
  unfold bkV
  rw [List.all_map]
  exact List.all_eq_true.mpr fun _ _ => rfl
section
variable {P : Program} {w : World} {K : PySem.W.Frag} {mg : Str → Option Value} {base : Heap}
abbrev sNeedWish : Stmt := top 33
theorem scNeedWish : FnScope ["thing"] ["thing"] (defScope sNeedWish) := ⟨rfl, rfl, rfl, by decide +kernel, rfl, by decide +kernel, by decide +kernel⟩
def spRefW (C : Addr) : Sp := fun vs H Q E => ∃ v d, vs = [v] ∧ Thg H d v ∧ sml d = true ∧ SeqAt.shaped d = true ∧ (isWishD d = true → ∀ H', Same H H' → Q .non H') ∧ (isWishD d = false → ∀ H', Same H H' → E (.ref C) none H')
theorem ok_needwish {f : Addr} {fd : FuncData} {C : Addr} (F : Fun K "need_wish" "need_wish" sNeedWish f fd) (O : XCls K mg "NoWish" C) (c1 : Cal P w K mg base 3 "is_wish" ["thing"] spWish) : FnOk P w K mg base (CXr P w) 4 f fd ["thing"] (spRefW C) := by
  refine F.okR scNeedWish (fun vs H Q E h => ?_) (fun cdv A outer s H vs Q E hr h ok => ?_)
  · obtain ⟨v, d, rfl, _⟩ := h; rfl
  · obtain ⟨v, d, rfl, hv, hs, hsh, k1, k2⟩ := h
    refine ⟨_, pss_one (ps_if (pt_not (pt_val (pe_cal c1 hr rfl (pa_cons (pv 0) pa_nil)))) (pss_one (ps_raise ok rfl O (by rfl) (pa_cons pe_str pa_nil))) pss_nil), ?_⟩
    refine ⟨_, rfl, v, d, rfl, hv, hs, hsh, fun H' sm => ⟨_, rfl, ?_⟩⟩
    cases e : isWishD d with
    | true => exact iteF (k1 e H' sm)
    | false => exact iteT ⟨by show 1 ≤ sizeLine; decide, k2 e H' sm⟩
def spForm : Sp := fun vs H Q _ => ∃ (a : Addr) (lo hi : Int) (hd tl : S) (ba : List S) (to : Bool) (x : S), vs = [.ref a, sv x] ∧ WishAt H a lo hi hd tl ba to ∧ x.length ≤ 900 ∧ Q (.bl (formB lo hi hd tl x)) H
abbrev sForm : Stmt := top 34
theorem scForm : FnScope ["wish", "name"] ["wish", "name"] (defScope sForm) := ⟨rfl, rfl, rfl, by decide +kernel, rfl, by decide +kernel, by decide +kernel⟩
theorem ok_form {f : Addr} {fd : FuncData} (F : Fun K "has_form" "has_form" sForm f fd) (B : Blt mg) (W : CstW mg) : FnOk P w K mg base CX0 1 f fd ["wish", "name"] spForm := by
  obtain ⟨u0, h0⟩ := W.least
  obtain ⟨u1, h1⟩ := W.most
  obtain ⟨u2, h2⟩ := W.head
  obtain ⟨u3, h3⟩ := W.tail
  refine F.ok scForm (fun vs H Q E h => ?_) (fun cdv A outer s H vs Q E hr h => ?_)
  · obtain ⟨a, lo, hi, hd, tl, ba, to, x, rfl, _⟩ := h; rfl
  · obtain ⟨a, lo, hi, hd, tl, ba, to, x, rfl, ⟨b, ha, hb⟩, hx, k⟩ := h
    refine ⟨_, pss_cons (ps_if (pt_not (pt_chain op_le op_le (pe_ix ix_tup (pv 0) (pe_glob (v := .int 0) (by rfl) h0 ⟨_, rfl⟩) (fun _ _ => rfl)) (pe_callB call_len_str (by rfl) B.len PySem.boot_len (pa_cons (pv 1) pa_nil)) (pe_ix ix_tup (pv 0) (pe_glob (v := .int 1) (by rfl) h1 ⟨_, rfl⟩) (fun _ _ => rfl))))
        (pss_one (ps_ret pe_bl)) pss_nil)
      (pss_one (ps_ret (pe_and (pe_bm PySem.F.plainAttrs_str PySem.F.slot_str_startswith PySem.F.type_str_startswith mt_startswith (pv 1) (pa_cons (pe_ix ix_tup (pv 0) (pe_glob (v := .int 2) (by rfl) h2 ⟨_, rfl⟩) (fun _ _ => rfl)) pa_nil))
        (pe_one (pe_bm PySem.F.plainAttrs_str PySem.F.slot_str_endswith PySem.F.type_str_endswith mt_endswith (pv 1) (pa_cons (pe_ix ix_tup (pv 0) (pe_glob (v := .int 3) (by rfl) h3 ⟨_, rfl⟩) (fun _ _ => rfl)) pa_nil)))))), ?_⟩
    refine ⟨_, rfl, a, _, 0, .int lo, rfl, rfl, .of ha, rfl, _, rfl, tx x, rfl, by rw [tx_len, sizeLine_eq]; omega, _, _, rfl, rfl, _, rfl, ?_⟩
    by_cases hl : lo ≤ (x.length : Int)
    · refine iteD (by rw [tx_len]; exact hl) ⟨_, rfl, a, _, 1, .int hi, rfl, rfl, .of ha, rfl, _, _, rfl, rfl, _, rfl, ?_⟩
      by_cases hh : (x.length : Int) ≤ hi
      · refine iteNS (by rw [tx_len]; exact hh) ?_
        refine ⟨_, rfl, rfl, _, rfl, a, _, 2, sv hd, rfl, rfl, .of ha, rfl, _, _, rfl, rfl, _, rfl, ?_⟩
        cases e1 : Txt.startswith (tx x) (tx hd) with
        | false =>
          have e : formB lo hi hd tl x = false := by simp only [formB, e1, Bool.false_and, Bool.and_false]
          rw [e] at k
          exact iteF k
        | true =>
          refine iteT ⟨_, rfl, rfl, _, rfl, a, _, 3, sv tl, rfl, rfl, .of ha, rfl, _, _, rfl, rfl, ?_⟩
          have e : formB lo hi hd tl x = Txt.endswith (tx x) (tx tl) := by simp only [formB, e1, decide_eq_true hl, decide_eq_true hh, Bool.true_and]
          rw [e] at k
          exact k
      · have e : formB lo hi hd tl x = false := by simp only [formB, decide_eq_false hh, Bool.false_and, Bool.and_false]
        rw [e] at k
        exact ite_nn (by rw [tx_len]; exact hh) k
    · have e : formB lo hi hd tl x = false := by simp only [formB, decide_eq_false hl, Bool.false_and]
      rw [e] at k
      exact iteDF (by rw [tx_len]; exact hl) ⟨_, rfl, iteT k⟩
def spOut : Sp := fun vs H Q _ => ∃ (c a : Addr) (bk : List S) (lo hi : Int) (hd tl : S) (ba : List S) (to : Bool), vs = [.ref c, .ref a] ∧ H c = some (.tup (bkV bk)) ∧ bk.length ≤ 8 ∧ WishAt H a lo hi hd tl ba to ∧ ba.length ≤ 6 ∧
  ∀ (l : Addr) (out : List S) (H' : Hp), Same H H' → H' l = some (.lst (bkV out)) → (∀ x, decide (x ∈ out) = outB bk ba to x) → Q (.ref l) H'
abbrev sOut : Stmt := top 35
theorem scOut : FnScope ["book", "wish"] ["book", "wish"] (defScope sOut) := ⟨rfl, rfl, rfl, by decide +kernel, rfl, by decide +kernel, by decide +kernel⟩
theorem bkV_txs (l : List S) : bkV l = (l.map tx).map V.str := by
  unfold bkV
  rw [List.map_map]; rfl
theorem ok_out {f : Addr} {fd : FuncData} (F : Fun K "left_out" "left_out" sOut f fd) (B : Blt mg) (W : CstW mg) (hli : mg "list" = none) (hse : mg "set" = none) : FnOk P w K mg base CX0 1 f fd ["book", "wish"] spOut := by
  obtain ⟨u4, h4⟩ := W.barred
  obtain ⟨u5, h5⟩ := W.told
  refine F.ok scOut (fun vs H Q E h => ?_) (fun cdv A outer s H vs Q E hr h => ?_)
  · obtain ⟨c, a, bk, lo, hi, hd, tl, ba, to, rfl, _⟩ := h; rfl
  · obtain ⟨c, a, bk, lo, hi, hd, tl, ba, to, rfl, hc, h8, ⟨b, ha, hb⟩, h6, k⟩ := h
    refine ⟨_, pss_cons (ps_if (pt_val (pe_ix ix_tup (pv 1) (pe_glob (v := .int 5) (by rfl) h5 ⟨_, rfl⟩) (fun _ _ => rfl)))
        (pss_one (ps_ret (pe_callTy call_list_of (by rfl) hli PyProof.Rows.boot_list (pa_cons (pe_ix ix_tup (pv 1) (pe_glob (v := .int 4) (by rfl) h4 ⟨_, rfl⟩) (fun _ _ => rfl)) pa_nil)))) pss_nil)
      (pss_one (ps_ret (pe_sset rfl (pe_op op_catTT (pe_ix ix_tup (pv 1) (pe_glob (v := .int 4) (by rfl) h4 ⟨_, rfl⟩) (fun _ _ => rfl)) (pv 0)) (by rfl) B.sorted PyProof.Rows.boot_sorted (by rfl) hse (by decide +kernel)))), ?_⟩
    refine ⟨_, rfl, a, _, 5, .bl to, rfl, rfl, .of ha, rfl, _, rfl, ?_⟩
    cases to with
    | true =>
      refine iteT ?_
      refine ⟨_, rfl, a, _, 4, .ref b, rfl, rfl, .of ha, rfl, b, _, rfl, .inr (.of hb), fun l hl => ?_⟩
      refine k l ba _ (Same.upd1 hl) upd_same fun x => ?_
      unfold outB; simp
    | false =>
      refine iteF ?_
      refine ⟨_, rfl, a, _, 4, .ref b, rfl, rfl, .of ha, rfl, _, rfl, ?_⟩
      have bl : ∀ l : List S, (bkV l).length = l.length := fun l => by unfold bkV; rw [List.length_map]
      refine ⟨b, c, _, _, rfl, rfl, hb, hc, by rw [bl, bl, sizeLine_eq]; omega, fun p H1 s1 hp => ?_⟩
      have ep : bkV ba ++ bkV bk = ((ba ++ bk).map tx).map V.str := by rw [← bkV_txs]; unfold bkV; rw [List.map_append]
      rw [ep] at hp
      refine ⟨p, (ba ++ bk).map tx, rfl, .of hp, by rw [List.length_map, List.length_append]; omega, fun out l hmem hsrt hl => ?_⟩
      have eo : out.map V.str = bkV (out.map fun x => x.cps.toList) := by
        unfold bkV
        rw [List.map_map]
        refine List.map_congr_left fun x _ => ?_
        show V.str x = V.str (tx x.cps.toList)
        rw [tx_eta]
      rw [eo]
      refine k l _ _ (s1.upd_new (s1.free hl)) upd_same fun x => ?_
      have e1 : x ∈ (out.map fun x => x.cps.toList) ↔ x ∈ ba ∨ x ∈ bk := by
        rw [List.mem_map]
        constructor
        · rintro ⟨y, hy, rfl⟩
          obtain ⟨z, hz, e⟩ := List.mem_map.mp ((hmem y).mp hy)
          have : z = y.cps.toList := by rw [← e, tx_cps]
          rw [← this]
          exact List.mem_append.mp hz
        · intro h
          refine ⟨tx x, (hmem _).mpr (List.mem_map.mpr ⟨x, List.mem_append.mpr h, rfl⟩), tx_cps x⟩
      unfold outB
      have e2 : decide (x ∈ (out.map fun x => x.cps.toList)) = (decide (x ∈ ba) || decide (x ∈ bk)) := by
        rw [Bool.eq_iff_iff, Bool.or_eq_true, decide_eq_true_eq, decide_eq_true_eq, decide_eq_true_eq]
        exact e1
      rw [e2]
      rfl
def spFits (nb nw nn : Addr) : Sp := fun vs H Q E => ∃ v u x d e g, vs = [v, u, x] ∧ Thg H d v ∧ Thg H e u ∧ Thg H g x ∧ sml d = true ∧ sml e = true ∧ sml g = true ∧ SeqAt.shaped e = true ∧
  (isBookD d = false → ∀ H', Same H H' → E (.ref nb) none H') ∧ (isBookD d = true → isWishD e = false → ∀ H', Same H H' → E (.ref nw) none H') ∧ (isBookD d = true → isWishD e = true → isNameD g = false → ∀ H', Same H H' → E (.ref nn) none H') ∧
  (∀ bk lo hi hd tl ba to y, isBk bk → d = .tuple (bk.map fun x => PyData.str (tx x)) → GW lo hi hd tl ba → e = wishD lo hi hd tl ba to → isNm y → g = .str (tx y) → ∀ H', Same H H' → Q (.bl (fitsB bk lo hi hd tl ba to y)) H')
abbrev sFits : Stmt := top 36
theorem scFits : FnScope ["book", "wish", "name"] ["book", "wish", "name"] (defScope sFits) := ⟨rfl, rfl, rfl, by decide +kernel, rfl, by decide +kernel, by decide +kernel⟩
theorem ok_fits {f : Addr} {fd : FuncData} {nb nw nn : Addr} (F : Fun K "fits" "fits" sFits f fd) (cNB : CalR P w K mg base 3 "need_book" ["thing"] (spRef nb isBookD)) (cNW : CalR P w K mg base 4 "need_wish" ["thing"] (spRefW nw)) (cNN : CalR P w K mg base 2 "need_name" ["thing"] (spRef nn isNameD))
    (cF : Cal P w K mg base 1 "has_form" ["wish", "name"] spForm) (cO : Cal P w K mg base 1 "left_out" ["book", "wish"] spOut) : FnOk P w K mg base (CXr P w) 5 f fd ["book", "wish", "name"] (spFits nb nw nn) := by
  refine F.okR scFits (fun vs H Q E h => ?_) (fun cdv A outer s H vs Q E hr h ok => ?_)
  · obtain ⟨v, u, x, d, e, g, rfl, _⟩ := h; rfl
  · obtain ⟨v, u, x, d, e, g, rfl, hv, hu, hx, sd, se, sg, she, kb, kw, kn, kg⟩ := h
    have r1 := hr.mono (j := 1) (by decide)
    have r2 := hr.mono (j := 2) (by decide)
    have r3 := hr.mono (j := 3) (by decide)
    refine ⟨_, pss_cons (ps_expr (pe_calR cNB ok.pass r3 rfl (pa_cons (pv 0) pa_nil))) (pss_cons (ps_expr (pe_calR cNW ok.pass hr rfl (pa_cons (pv 1) pa_nil))) (pss_cons (ps_expr (pe_calR cNN ok.pass r2 rfl (pa_cons (pv 2) pa_nil)))
      (pss_one (ps_ret (pe_and (pe_cal cF r1 rfl (pa_cons (pv 1) (pa_cons (pv 2) pa_nil))) (pe_one (pe_cmpR op_notIn_seq (pv 2) (pe_cal cO r1 rfl (pa_cons (pv 0) (pa_cons (pv 1) pa_nil))) (by with_unfolding_all rfl)))))))), ?_⟩
    refine ⟨_, rfl, v, d, rfl, hv, sd, fun g1 H1 s1 => ?_, fun b1 H1 s1 => kb b1 H1 s1⟩
    refine ⟨_, rfl, u, e, rfl, Thg.same s1 _ _ hu, se, she, fun g2 H2 s2' => ?_, fun b2 H2 s2' => kw g1 b2 _ (s1.trans s2')⟩
    have s2 := s1.trans s2'
    refine ⟨_, rfl, x, g, rfl, Thg.same s2 _ _ hx, sg, fun g3 H3 s3' => ?_, fun b3 H3 s3' => kn g1 g2 b3 _ (s2.trans s3')⟩
    have s3 := s2.trans s3'
    obtain ⟨c, bk, rfl, hc, hbk, rfl⟩ := thg_book hv g1
    obtain ⟨lo, hi, hd, tl, ba, to, rfl, gw⟩ := wish_inv g2
    obtain ⟨a, rfl, hw⟩ := thg_wish hu
    obtain ⟨y, rfl, hy, rfl⟩ := thg_name hx g3
    have kq := kg bk lo hi hd tl ba to y hbk rfl gw rfl hy rfl
    have y8 : y.length ≤ 8 := hy.2.1
    refine ⟨_, rfl, _, rfl, a, lo, hi, hd, tl, ba, to, y, rfl, hw.same s3, by omega, _, rfl, ?_⟩
    cases e1 : formB lo hi hd tl y with
    | false =>
      have e2 : fitsB bk lo hi hd tl ba to y = false := by simp only [fitsB, e1, Bool.false_and]
      rw [e2] at kq
      exact iteF (kq _ s3)
    | true =>
      refine iteT ?_
      refine ⟨_, rfl, _, rfl, _, rfl, c, a, bk, lo, hi, hd, tl, ba, to, rfl, s3 _ _ hc, hbk.hi, hw.same s3, gw.len, fun l out H4 s4 hl hmem => ?_⟩
      refine ⟨l, _, rfl, .inl (.of hl), rfl, flat_bk _, ?_⟩
      have e2 : fitsB bk lo hi hd tl ba to y = !outB bk ba to y := by simp only [fitsB, e1, Bool.true_and]
      rw [inV_bk, hmem y]
      rw [e2] at kq
      exact kq _ (s3.trans s4)
end
end Kn
end
section
set_option Elab.async false
set_option linter.all false
set_option maxRecDepth 100000
set_option maxHeartbeats 1000000
namespace L2
open PySem PySem.Spec PyProof.Rows
def tChain3 (r r' r'' : R2) (ta tb tc td : TE) : TT := fun σ H Q => ta σ H fun x H1 => tb σ H1 fun y H2 => r x y H2 fun z H3 => ∃ k, z = .bl k ∧
  (if k = true then tc σ H3 fun w' H4 => r' y w' H4 fun z2 H5 => ∃ k2, z2 = .bl k2 ∧ (if k2 = true then td σ H5 fun w2 H6 => r'' w' w2 H6 fun z3 H7 => ∃ k3, z3 = .bl k3 ∧ Q k3 H7 else Q false H5) else Q false H3)
theorem pt_chain3 {X : Cx} {a b c d : Expr} {ta tb tc td : TE} {pos : Pos} {op op' op'' : CmpOp} {r r' r'' : R2} (ho : OpR X (compareOp op) r) (ho' : OpR X (compareOp op') r') (ho'' : OpR X (compareOp op'') r'') (ha : PE X a ta) (hb : PE X b tb) (hc : PE X c tc) (hd : PE X d td)
    (hm : lastMarks [op, op', op''] [b, c, d] = false := by with_unfolding_all rfl) : PT X (.Compare a [op, op', op''] [b, c, d] pos) (tChain3 r r' r'' ta tb tc td) := by
  intro pins s σ H Q I h
  refine isTrue_chain (thn (ha pins s σ H _ I h) fun v s1 ⟨x, H1, I1, r1, q1⟩ => test_link (thn (hb pins s1 σ H1 _ I1 q1) fun u s2 ⟨y, H2, I2, r2, q2⟩ =>
    thn (ho pins s2 σ H2 x y v u _ I2 r1 r2 q2) fun d s3 ⟨z, H3, I3, r3, k, e, q3⟩ => ?_)) hm
  subst e
  cases r3
  refine wpAny_truthy_bool ?_
  cases k with
  | false => exact ite_ff ⟨H3, I3, q3⟩
  | true =>
    refine ite_tt (test_link (thn (hc pins s3 σ H3 _ I3 q3) fun w' s4 ⟨z', H4, I4, r4, q4⟩ => thn (ho' pins s4 σ H4 y z' u w' _ I4 r2 r4 q4) fun d' s5 ⟨z2, H5, I5, r5, k2, e2, q5⟩ => ?_))
    subst e2
    cases r5
    refine wpAny_truthy_bool ?_
    cases k2 with
    | false => exact ite_ff ⟨H5, I5, q5⟩
    | true =>
      refine ite_tt (test_last (thn (hd pins s5 σ H5 _ I5 q5) fun w2 s6 ⟨z6, H6, I6, r6, q6⟩ => thn (ho'' pins s6 σ H6 z' z6 w' w2 _ I6 r4 r6 q6) fun d' s7 ⟨z7, H7, I7, r7, k3, e3, q7⟩ => ?_))
      subst e3
      cases r7
      exact wpAny_truthy_bool ⟨H7, I7, q7⟩
end L2
namespace Kn
open PySem L2
def letD (a b : Int) : PyData → Bool
  | .str x => (decide (a ≤ (x.length : Int)) && decide ((x.length : Int) ≤ b)) && x.cps.toList.all isLet
  | _ => false
theorem notin_letters {c : Nat} (h : c < 128) : (!(!(Builtin.Str.occurrences "abcdefghijklmnopqrstuvwxyz" ⟨#[c]⟩ 0 ("abcdefghijklmnopqrstuvwxyz" : Str).length 1).isEmpty)) = !isLet c := by
  have e : ("abcdefghijklmnopqrstuvwxyz" : Str) = letters := by decide +kernel
  rw [e, in_letters128 h, Bool.not_not]
theorem eqv_nil (ds : List PyData) : PyData.eqv (.list ds) (.list []) = ds.isEmpty := by
  cases ds <;> simp [PyData.eqv, PyData.eqvAll]
section
variable {P : Program} {w : World} {K : PySem.W.Frag} {mg : Str → Option Value} {base : Heap}
def spLet : Sp := fun vs H Q _ => ∃ v d a b, vs = [v, .int a, .int b] ∧ Thg H d v ∧ sml d = true ∧ ∀ H', Same H H' → Q (.bl (letD a b d)) H'
abbrev sLet : Stmt := top 46
theorem scLet : FnScope ["_law_thing", "_law_least", "_law_most"] ["_law_thing", "_law_least", "_law_most"] (defScope sLet) := ⟨rfl, rfl, rfl, by decide +kernel, rfl, by decide +kernel, by decide +kernel⟩
theorem ndLe : (["_law_sign"] : List Str).Nodup := by decide +kernel
theorem ok_let {f : Addr} {fd : FuncData} (F : Fun K "_law_letters" "_law_letters" sLet f fd) (B : Blt mg) (KF : KitF K) : FnOk P w K mg base CX0 1 f fd ["_law_thing", "_law_least", "_law_most"] spLet := by
  refine F.ok scLet (fun vs H Q E h => ?_) (fun cdv A outer s H vs Q E hr h => ?_)
  · obtain ⟨v, d, a, b, rfl, _⟩ := h; rfl
  · obtain ⟨v, d, lo, hi, rfl, hv, hs, k⟩ := h
    have hu := hr.units
    refine ⟨_, pss_cons (ps_if (PW.pt (pw_or (pt_not (pt_val (pe_callB call_isinst (by rfl) B.isinstance PyProof.Rows.boot_isinstance (pa_cons (pv 0) (pa_cons (pe_bltn (v := .ty "str") (by rfl) B.str PyProof.Rows.boot_str rfl) pa_nil)))))
        (pw_or1 (pt_not (pt_chain op_le op_le (pv 1) (pe_callB call_len_str (by rfl) B.len PySem.boot_len (pa_cons (pv 0) pa_nil)) (pv 2))))))
        (pss_one (ps_ret pe_bl)) pss_nil)
      (pss_one (ps_ret (pe_cmpR (op_eqD hu) (pe_comp (N := ["_law_sign"]) (caps := []) rfl (compScope_of (by kernel_rfl)) (pi_str (pv 0))
        (fun cl C s H ex => pg_name (i := 0) ndLe rfl (Or.inl rfl)) (fun cl C s H ex => pf_one (pt_cmpR op_notIn_str (pv 0) pe_str (by with_unfolding_all rfl)))
        (fun cl C s H ex => pv 0)) (pe_lst pa_nil) (nomark _)))), ?_⟩
    obtain ⟨t, b, hty, hkit, hb⟩ := ty_str KF hv
    refine ⟨_, rfl, _, _, t, b, rfl, hty, hkit, b, rfl, ?_⟩
    cases b with
    | false =>
      have hd : letD lo hi d = false := by
        cases d with
        | str x => exact absurd (hb.mpr ⟨x, rfl⟩) (by decide)
        | _ => rfl
      rw [hd] at k
      exact iteT (iteT (k H (Same.refl H)))
    | true =>
      obtain ⟨x, rfl⟩ := hb.mp rfl
      have hv' : v = .str x := hv
      subst hv'
      have hsx : x.length ≤ 900 ∧ ∀ c ∈ x.cps.toList, c < 128 := by
        simp only [sml, Bool.and_eq_true, decide_eq_true_eq, List.all_eq_true] at hs
        exact hs
      refine iteF ?_
      refine ⟨_, rfl, _, rfl, x, rfl, (by rw [sizeLine_eq]; omega), _, _, rfl, rfl, _, rfl, ?_⟩
      by_cases h1 : lo ≤ (x.length : Int)
      · refine iteD h1 ⟨_, rfl, _, _, rfl, rfl, _, rfl, ?_⟩
        by_cases h2 : (x.length : Int) ≤ hi
        · refine iteNS h2 ?_
          refine ⟨_, rfl, _, rfl, ?_⟩
          have hxl : x.cps.toList.length = x.length := by simp [Str.length]
          refine comp_known (known_str x) [] 1 (by rw [List.length_map]; omega) (fun i acc H' => Same H H' ∧ acc = ((x.cps.toList.take i).filter fun c => !isLet c).map fun c => V.str ⟨#[c]⟩) ⟨Same.refl H, rfl⟩ (fun i acc H' _ h => ⟨trivial, by rw [h.2, List.length_map]; exact Nat.le_trans (List.length_filter_le ..) (by rw [List.length_take]; omega)⟩) ?_ ?_
          · rintro i y acc H' ys Nx hN hx hy ⟨sm, rfl⟩
            obtain ⟨y', rfl⟩ := ys1 hy
            rw [List.getElem?_map] at hx
            cases e : x.cps.toList[i]? with
            | none => rw [e] at hx; cases hx
            | some c =>
              rw [e] at hx
              have hy2 : y = .str ⟨#[c]⟩ := (Option.some.inj hx).symm
              subst hy2
              have hi : i < x.cps.toList.length := (List.getElem?_eq_some_iff.mp e).1
              refine ⟨_, rfl, _, _, rfl, rfl, _, rfl, ?_⟩
              rw [notin_letters (hsx.2 c (List.mem_of_getElem? e))]
              have etk : x.cps.toList.take (i + 1) = x.cps.toList.take i ++ [c] := by rw [List.take_succ_eq_append_getElem hi, (List.getElem?_eq_some_iff.mp e).2]
              cases hc : isLet c with
              | true => exact iteF (hN _ _ [some (.str ⟨#[c]⟩)] rfl ⟨sm, by rw [etk, List.filter_append]; simp [hc]⟩)
              | false => exact iteT ⟨_, rfl, hN _ _ [some (.str ⟨#[c]⟩)] rfl ⟨sm, by rw [etk, List.filter_append]; simp [hc]⟩⟩
          · rintro acc H' ⟨sm, rfl⟩ D hD
            rw [List.length_map, List.take_length]
            generalize hfl : x.cps.toList.filter (fun c => !isLet c) = fl
            have u1 := Same.upd1 (o := .lst (fl.map fun c => V.str ⟨#[c]⟩)) hD
            refine ⟨by show 0 ≤ sizeLine; decide, fun p hp => ?_⟩
            have u2 := Same.upd1 (o := .lst []) hp
            have rpf : ∀ (H2 : Hp) (l : List Nat), Reps K H2 (l.map fun c => PyData.str ⟨#[c]⟩) (l.map fun c => V.str ⟨#[c]⟩) := fun H2 l => by
              induction l with
              | nil => exact rfl
              | cons t l ih => exact ⟨_, _, rfl, rfl, ih⟩
            refine ⟨.list (fl.map fun c => PyData.str ⟨#[c]⟩), .list [], repL (u2 _ _ upd_same) (rpf _ fl), repL upd_same rfl, ?_, rfl, ?_⟩
            · refine (shaped_list fun d hd => ?_).1
              obtain ⟨c, hc, rfl⟩ := List.mem_map.mp hd
              rw [← hfl] at hc
              have hc128 := hsx.2 c (List.mem_filter.mp hc).1
              refine ⟨?_, by simp only [PyData.depth]; decide⟩
              simp only [PyData.canLay0, PyData.strOk]
              rw [Array.all_eq_true']
              intro z hz
              have : z = c := by simpa using hz
              subst this
              exact decide_eq_true (by omega)
            · have e2 : PyData.eqv (.list (fl.map fun c => PyData.str ⟨#[c]⟩)) (.list []) = letD lo hi (.str x) := by
                rw [eqv_nil]
                simp only [letD, decide_eq_true h1, decide_eq_true h2, Bool.and_self, Bool.true_and]
                rw [Bool.eq_iff_iff, List.isEmpty_iff, List.all_eq_true, List.map_eq_nil_iff, ← hfl, List.filter_eq_nil_iff]
                constructor
                · intro h c hc
                  have := h c hc
                  simpa using this
                · intro h c hc
                  rw [h c hc]; decide
              show Q (.bl (PyData.eqv (.list (fl.map fun c => PyData.str ⟨#[c]⟩)) (.list []))) _
              rw [e2]
              exact k _ ((sm.trans u1).trans u2)
        · have hd : letD lo hi (.str x) = false := by simp [letD, h2]
          rw [hd] at k
          exact ite_nn h2 (k H (Same.refl H))
      · have hd : letD lo hi (.str x) = false := by simp [letD, h1]
        rw [hd] at k
        exact iteDF h1 ⟨false, rfl, iteT (k H (Same.refl H))⟩
def spTold : Sp := fun vs H Q _ => ∃ v u x d e g, vs = [v, u, x] ∧ Thg H d v ∧ Thg H e u ∧ Thg H g x ∧ sml d = true ∧ sml e = true ∧ sml g = true ∧ SeqAt.shaped e = true ∧
  (isBookD d = false → ∀ p H', Same H H' → RefT H' p 0 → Q (.ref p) H') ∧ (isBookD d = true → isWishD e = false → ∀ p H', Same H H' → RefT H' p 3 → Q (.ref p) H') ∧ (isBookD d = true → isWishD e = true → isNameD g = false → ∀ p H', Same H H' → RefT H' p 2 → Q (.ref p) H') ∧
  (∀ bk lo hi hd tl ba to y, isBk bk → d = .tuple (bk.map fun x => PyData.str (tx x)) → GW lo hi hd tl ba → e = wishD lo hi hd tl ba to → isNm y → g = .str (tx y) → ∀ H', Same H H' → Q (.bl (fitsB bk lo hi hd tl ba to y)) H')
abbrev sTold : Stmt := top 45
theorem scTold : FnScope ["_law_book_here", "_law_wish_here", "_law_name_here", "_law_e"] ["_law_book_here", "_law_wish_here", "_law_name_here"] (defScope sTold) := ⟨rfl, rfl, rfl, by decide +kernel, rfl, by decide +kernel, by decide +kernel⟩
theorem ok_told {f : Addr} {fd : FuncData} {cs : List Addr} {L : Addr} (F : Fun K "_law_told" "_law_told" sTold f fd) (E : ErrX K mg cs L) (cF : CalR P w K mg base 5 "fits" ["book", "wish", "name"] (spFits (cs.getD 0 0) (cs.getD 3 0) (cs.getD 2 0)))
    (cR : CalB P w K mg base 1 "_law_refused" ["_law_e"] (spRefused cs)) : FnOk P w K mg base CX0 6 f fd ["_law_book_here", "_law_wish_here", "_law_name_here"] spTold := by
  refine F.ok scTold (fun vs H Q E h => ?_) (fun cdv A outer s H vs Q E' hr h => ?_)
  · obtain ⟨v, u, x, d, e, g, rfl, _⟩ := h; rfl
  · obtain ⟨v, u, x, d, e, g, rfl, hv, hu, hx, sd, se, sg, she, k0, k1, k2, kg⟩ := h
    have nd := scTold.nd
    have hr1 := hr.mono (j := 1) (by decide)
    refine ⟨_, pss_one (ps_try (i := 3) rfl rfl rfl E.like (by rfl) nd rfl rfl
      (fun E1 ET pn ok => pss_one (ps_ret (pe_calR cF ok hr rfl (pa_cons (pv 0) (pa_cons (pv 1) (pa_cons (pv 2) pa_nil))))))
      (fun e => pss_one (ps_ret (pe_calB cR (hr1.busy _) rfl (pa_cons (pv 3) pa_nil))))), ?_⟩
    have caught : ∀ (j : Nat), j < 8 → (∀ p H', Same H H' → RefT H' p j → Q (.ref p) H') → ∀ H1, Same H H1 → ∃ C : Addr, Value.ref (cs.getD j 0) = .ref C ∧ PySem.W.excIn K C veMro "ValueError.__new__" = true ∧ subOf K C L = true ∧ ∀ e1, H1 e1 = none →
        tRet (tCall (spRefused cs) [] E0 (tCons (tVar 3) tNil)) { nx := fun _ _ => False, rt := Q } ((List.replicate 4 none).set 3 (some (.ref e1))) (upd H1 e1 (XO e1 C)) := fun j hj kk H1 s1 => by
      obtain ⟨a1, a2, a3, _⟩ := E.at_ j hj
      refine ⟨_, rfl, a1.exc, a3, fun e1 he1 => ?_⟩
      refine ⟨_, rfl, e1, j, rfl, hj, upd_same, fun p H' sm _ hp => kk p H' (s1.trans ((Same.upd1 he1).trans sm)) hp⟩
    refine ⟨_, rfl, _, rfl, _, rfl, v, u, x, d, e, g, rfl, hv, hu, hx, sd, se, sg, she, fun hb H1 s1 => caught 0 (by decide) (k0 hb) H1 s1, fun hb ho H1 s1 => caught 3 (by decide) (k1 hb ho) H1 s1, fun hb ho hn H1 s1 => caught 2 (by decide) (k2 hb ho hn) H1 s1, fun bk lo hi hd tl ba to y h1 h2 h3 h4 h5 h6 => kg bk lo hi hd tl ba to y h1 h2 h3 h4 h5 h6⟩
end
end Kn
end
section
set_option Elab.async false
set_option linter.all false
set_option maxRecDepth 100000
set_option maxHeartbeats 1000000
namespace Kn
open PySem L2
theorem sub_tx (x y : S) (i : Nat) : Builtin.Str.subAt (tx x) (tx y) i = decide ((x.drop i).take y.length = y) := by
  unfold Builtin.Str.subAt
  have e : (tx x).cps.extract i (i + (tx y).length) = ((x.drop i).take y.length).toArray := by
    apply Array.toList_inj.mp
    rw [Array.toList_extract, tx_cps, tx_len, List.extract_eq_take_drop]
    simp
  rw [e]
  have e2 : (tx y).cps = y.toArray := by
    apply Array.toList_inj.mp
    rw [tx_cps]
  rw [e2, Bool.eq_iff_iff, beq_iff_eq, decide_eq_true_eq]
  exact ⟨fun h => by simpa using congrArg Array.toList h, fun h => by rw [h]⟩
theorem starts_tx (x h : S) : Txt.startswith (tx x) (tx h) = decide (x.take h.length = h) := by
  unfold Txt.startswith
  rw [sub_tx, tx_len, tx_len, List.drop_zero, Bool.eq_iff_iff, Bool.and_eq_true]
  simp only [decide_eq_true_eq]
  constructor
  · exact fun q => q.2
  · intro q
    refine ⟨?_, q⟩
    have := congrArg List.length q
    rw [List.length_take] at this
    omega
theorem ends_tx (x t : S) : Txt.endswith (tx x) (tx t) = decide (endOf x t.length = t) := by
  unfold Txt.endswith endOf
  rw [sub_tx, tx_len, tx_len, Bool.eq_iff_iff, Bool.and_eq_true]
  simp only [decide_eq_true_eq]
  constructor
  · rintro ⟨h1, h2⟩
    rw [List.take_of_length_le (by rw [List.length_drop]; omega)] at h2
    exact h2
  · intro q
    have := congrArg List.length q
    rw [List.length_drop] at this
    refine ⟨by omega, ?_⟩
    rw [List.take_of_length_le (by rw [List.length_drop]; omega)]
    exact q
section
variable {P : Program} {w : World} {K : PySem.W.Frag} {mg : Str → Option Value} {base : Heap}
def spLFits : Sp := fun vs H Q _ => ∃ (c a : Addr) (bk : List S) (lo hi : Int) (hd tl : S) (ba : List S) (to : Bool) (x : S), vs = [.ref c, .ref a, sv x] ∧ H c = some (.tup (bkV bk)) ∧ WishAt H a lo hi hd tl ba to ∧ GW lo hi hd tl ba ∧ x.length ≤ 900 ∧ Q (.bl (fitsB bk lo hi hd tl ba to x)) H
abbrev sLFits : Stmt := top 43
theorem scLFits : FnScope ["_law_book_here", "_law_wish_here", "_law_name_here"] ["_law_book_here", "_law_wish_here", "_law_name_here"] (defScope sLFits) := ⟨rfl, rfl, rfl, by decide +kernel, rfl, by decide +kernel, by decide +kernel⟩
theorem edge_len {x : S} (h : x = [] ∨ (isNm x ∧ x.length ≤ 3)) : x.length ≤ 3 := by
  rcases h with rfl | h
  · exact Nat.zero_le _
  · exact h.2
theorem ok_lfits {f : Addr} {fd : FuncData} (F : Fun K "_law_fits" "_law_fits" sLFits f fd) (B : Blt mg) (hmax : mg "max" = none) : FnOk P w K mg base CX0 1 f fd ["_law_book_here", "_law_wish_here", "_law_name_here"] spLFits := by
  refine F.ok scLFits (fun vs H Q E h => ?_) (fun cdv A outer s H vs Q E hr h => ?_)
  · obtain ⟨c, a, bk, lo, hi, hd, tl, ba, to, x, rfl, _⟩ := h; rfl
  · obtain ⟨c, a, bk, lo, hi, hd, tl, ba, to, x, rfl, hc, ⟨b, ha, hb⟩, gw, hx, k⟩ := h
    have l3 := edge_len gw.ghd
    have l4 := edge_len gw.gtl
    refine ⟨_, pss_cons (ps_if (PW.pt (pw_or (pt_not (pt_chain op_le op_le (pe_ix ix_tup (pv 1) pe_int (fun _ _ => rfl)) (pe_callB call_len_str (by rfl) B.len PySem.boot_len (pa_cons (pv 2) pa_nil)) (pe_ix ix_tup (pv 1) pe_int (fun _ _ => rfl))))
        (pw_or1 (pt_cmpR op_ne (pe_sliceS (pv 2) po_none (po_some (pe_callB call_len_str (by rfl) B.len PySem.boot_len (pa_cons (pe_ix ix_tup (pv 1) pe_int (fun _ _ => rfl)) pa_nil)))) (pe_ix ix_tup (pv 1) pe_int (fun _ _ => rfl)) (nomark _)))))
        (pss_one (ps_ret pe_bl)) pss_nil)
      (pss_cons (ps_if (PW.pt (pw_or (pt_cmpR op_ne (pe_sliceS (pv 2) (po_some (pe_callB (call_max2 rfl) (by rfl) hmax PyProof.Rows.boot_max (pa_cons pe_int (pa_cons (pe_op op_sub (pe_callB call_len_str (by rfl) B.len PySem.boot_len (pa_cons (pv 2) pa_nil)) (pe_callB call_len_str (by rfl) B.len PySem.boot_len (pa_cons (pe_ix ix_tup (pv 1) pe_int (fun _ _ => rfl)) pa_nil))) pa_nil)))) po_none) (pe_ix ix_tup (pv 1) pe_int (fun _ _ => rfl)) (nomark _))
        (pw_or1 (pt_cmpR op_in_seq (pv 2) (pe_ix ix_tup (pv 1) pe_int (fun _ _ => rfl)) (by with_unfolding_all rfl)))))
        (pss_one (ps_ret pe_bl)) pss_nil)
      (pss_one (ps_ret (pe_or (pe_ix ix_tup (pv 1) pe_int (fun _ _ => rfl)) (pe_one (pe_cmpR op_notIn_seq (pv 2) (pv 0) (by with_unfolding_all rfl))))))), ?_⟩
    refine ⟨_, rfl, a, _, 0, .int lo, rfl, rfl, .of ha, rfl, _, rfl, tx x, rfl, by rw [tx_len, sizeLine_eq]; omega, _, _, rfl, rfl, _, rfl, ?_⟩
    by_cases hl : lo ≤ (x.length : Int)
    · refine iteD (by rw [tx_len]; exact hl) ⟨_, rfl, a, _, 1, .int hi, rfl, rfl, .of ha, rfl, _, _, rfl, rfl, _, rfl, ?_⟩
      by_cases hh : (x.length : Int) ≤ hi
      · refine iteNS (by rw [tx_len]; exact hh) ?_
        have sz : ∀ y : S, y.length ≤ 900 → (tx y).length ≤ sizeLine := fun y hy => by rw [tx_len, sizeLine_eq]; omega
        have ne : ∀ y z : S, (!decide (sv y = sv z)) = !decide (y = z) := fun y z => by
          congr 1
          exact decide_eq_decide.mpr ⟨fun q => tx_inj (by injection q), fun q => by rw [q]⟩
        refine ⟨_, rfl, _, rfl, a, _, 2, sv hd, rfl, rfl, .of ha, rfl, tx hd, rfl, sz hd (by omega), _, rfl, tx x, rfl, sz x hx, _, rfl, a, _, 2, sv hd, rfl, rfl, .of ha, rfl, ?_⟩
        rw [tx_len hd, cut_to]
        refine ⟨rfl, _, rfl, ?_⟩
        rw [ne]
        by_cases q1 : x.take hd.length = hd
        · refine iteNS q1 ?_
          refine ⟨_, rfl, _, rfl, tx x, rfl, sz x hx, _, rfl, a, _, 3, sv tl, rfl, rfl, .of ha, rfl, tx tl, rfl, sz tl (by omega), _, _, rfl, rfl, _, _, rfl, _, rfl, tx x, rfl, sz x hx, _, rfl, a, _, 3, sv tl, rfl, rfl, .of ha, rfl, ?_⟩
          rw [tx_len tl, cut_max]
          refine ⟨rfl, _, rfl, ?_⟩
          rw [ne]
          by_cases q2 : endOf x tl.length = tl
          · refine iteNS q2 ?_
            refine ⟨_, rfl, _, rfl, a, _, 4, .ref b, rfl, rfl, .of ha, rfl, b, _, rfl, .inr (.of hb), rfl, flat_bk _, _, rfl, ?_⟩
            rw [if_neg (by decide), inV_bk]
            have fm : formB lo hi hd tl x = true := by simp only [formB, decide_eq_true hl, decide_eq_true hh, starts_tx, ends_tx, decide_eq_true q1, decide_eq_true q2, Bool.and_self]
            by_cases q3 : x ∈ ba
            · have e : fitsB bk lo hi hd tl ba to x = false := by simp only [fitsB, outB, decide_eq_true q3, Bool.true_or, Bool.not_true, Bool.and_false]
              rw [e] at k
              exact iteD q3 k
            · refine iteDF q3 ?_
              refine ⟨_, rfl, a, _, 5, .bl to, rfl, rfl, .of ha, rfl, _, rfl, ?_⟩
              cases to with
              | true =>
                have e : fitsB bk lo hi hd tl ba true x = true := by simp only [fitsB, outB, fm, decide_eq_false q3, Bool.not_true, Bool.false_and, Bool.or_self, Bool.not_false, Bool.and_self]
                rw [e] at k
                exact iteT k
              | false =>
                have e : fitsB bk lo hi hd tl ba false x = !decide (x ∈ bk) := by simp only [fitsB, outB, fm, decide_eq_false q3, Bool.not_false, Bool.true_and, Bool.false_or]
                rw [e] at k
                refine iteF ⟨_, rfl, _, rfl, c, _, rfl, .inr (.of hc), rfl, flat_bk _, ?_⟩
                rw [if_pos rfl, inV_bk]
                exact k
          · have e : fitsB bk lo hi hd tl ba to x = false := by simp only [fitsB, formB, ends_tx, decide_eq_false q2, Bool.false_and, Bool.and_false]
            rw [e] at k
            exact ite_nn q2 (iteT k)
        · have e : fitsB bk lo hi hd tl ba to x = false := by simp only [fitsB, formB, starts_tx, decide_eq_false q1, Bool.false_and, Bool.and_false]
          rw [e] at k
          exact ite_nn q1 k
      · have e : fitsB bk lo hi hd tl ba to x = false := by simp only [fitsB, formB, decide_eq_false hh, Bool.false_and, Bool.and_false]
        rw [e] at k
        exact ite_nn (by rw [tx_len]; exact hh) (iteT k)
    · have e : fitsB bk lo hi hd tl ba to x = false := by simp only [fitsB, formB, decide_eq_false hl, Bool.false_and]
      rw [e] at k
      exact iteDF (by rw [tx_len]; exact hl) ⟨_, rfl, iteT (iteT k)⟩
end
end Kn
end
section
set_option Elab.async false
set_option linter.all false
set_option maxRecDepth 100000
set_option maxHeartbeats 1000000
namespace Kn
open PySem L2
theorem filter_shaped {ds : List PyData} {p : PyData → Bool} (h : SeqAt.shaped (.tuple ds) = true) : SeqAt.shaped (.list (ds.filter p)) = true := by
  unfold SeqAt.shaped at h ⊢
  rw [Bool.and_eq_true] at h ⊢
  obtain ⟨h1, h2⟩ := h
  have a1 : PyData.canLayAll0 ds = true := by simpa only [PyData.canLay0] using h1
  have a2 : PyData.depthAll ds + 1 ≤ 64 := by
    have h2' := of_decide_eq_true h2
    simpa only [PyData.depth] using h2'
  have b : PyData.canLayAll0 (ds.filter p) = true ∧ PyData.depthAll (ds.filter p) ≤ PyData.depthAll ds := by
    clear h1 h2 a2
    induction ds with
    | nil => exact ⟨rfl, Nat.le_refl _⟩
    | cons d ds ih =>
      have h' : d.canLay0 = true ∧ PyData.canLayAll0 ds = true := by simpa only [PyData.canLayAll0, Bool.and_eq_true] using a1
      obtain ⟨i1, i2⟩ := ih h'.2
      rw [List.filter_cons]
      split
      · exact ⟨by simp only [PyData.canLayAll0, h'.1, i1, Bool.and_self], by simp only [PyData.depthAll]; omega⟩
      · exact ⟨i1, by simp only [PyData.depthAll]; omega⟩
  refine ⟨by simp only [PyData.canLay0]; exact b.1, decide_eq_true ?_⟩
  simp only [PyData.depth]
  omega
theorem ris_ext : ∀ {xs ys : List S}, xs.Pairwise (· < ·) → ys.Pairwise (· < ·) → (∀ p, p ∈ xs ↔ p ∈ ys) → xs = ys := fun {xs ys} hx hy h => by
  have e := Ris.ext (α := Unit) (xs := xs.map fun x => (x, ())) (ys := ys.map fun x => (x, ())) (List.pairwise_map.mpr hx) (List.pairwise_map.mpr hy) fun p => by
    obtain ⟨p, ⟨⟩⟩ := p
    simp [h]
  have := congrArg (List.map Prod.fst) e
  rw [List.map_map, List.map_map] at this
  have hid : ∀ l : List S, l.map (Prod.fst ∘ fun x => (x, ())) = l := fun l => List.map_id l
  rw [hid, hid] at this
  exact this
def isIntD : PyData → Bool
  | .int _ => true
  | _ => false
def isIB : PyData → Bool
  | .int _ => true
  | .bool _ => true
  | _ => false
theorem ris_iff : ∀ l : List S, risT l = true ↔ l.Pairwise (· < ·)
  | [] => by simp [risT]
  | [x] => by simp [risT]
  | x :: y :: l => by
    have ih := ris_iff (y :: l)
    have e : risT (x :: y :: l) = (decide (x < y) && risT (y :: l)) := by simp [risT]
    rw [e, Bool.and_eq_true, decide_eq_true_eq, ih]
    constructor
    · rintro ⟨h1, h2⟩
      refine List.pairwise_cons.mpr ⟨fun z hz => ?_, h2⟩
      rcases List.mem_cons.mp hz with rfl | hz
      · exact h1
      · exact List.lt_trans h1 ((List.pairwise_cons.mp h2).1 z hz)
    · intro h
      exact ⟨(List.pairwise_cons.mp h).1 y (List.mem_cons_self ..), (List.pairwise_cons.mp h).2⟩
theorem eqv_strs : ∀ l m : List Str, PyData.eqv (.list (l.map fun c => PyData.str c)) (.list (m.map fun c => PyData.str c)) = decide (l = m)
  | [], [] => rfl
  | [], _ :: _ => rfl
  | _ :: _, [] => rfl
  | x :: l, y :: m => by
    have ih := eqv_strs l m
    have e : PyData.eqv (.list ((x :: l).map fun c => PyData.str c)) (.list ((y :: m).map fun c => PyData.str c)) = ((x == y) && PyData.eqv (.list (l.map fun c => PyData.str c)) (.list (m.map fun c => PyData.str c))) := by
      simp only [List.map_cons, PyData.eqv, PyData.eqvAll]
    rw [e, ih, Bool.eq_iff_iff, Bool.and_eq_true, beq_iff_eq, decide_eq_true_eq, decide_eq_true_eq]
    exact ⟨fun h => by rw [h.1, h.2], fun h => by injection h with h1 h2; exact ⟨h1, h2⟩⟩
theorem let_edge (d : PyData) : letD 0 3 d = isEdgeD d := by
  cases d with
  | str x =>
    simp only [letD, isEdgeD, isNameD]
    by_cases h0 : x.length = 0
    · have : x.cps.toList = [] := List.length_eq_zero_iff.mp (by simpa [Str.length] using h0)
      simp [h0, this]
    · by_cases h3 : x.length ≤ 3
      · have a1 : decide ((0 : Int) ≤ (x.length : Int)) = true := decide_eq_true (by omega)
        have a2 : decide ((x.length : Int) ≤ 3) = true := decide_eq_true (by omega)
        have a3 : decide (1 ≤ x.length) = true := decide_eq_true (by omega)
        have a4 : decide (x.length ≤ 8) = true := decide_eq_true (by omega)
        rw [a1, a2, a3, a4, decide_eq_false h0, decide_eq_true h3]
        simp
      · have a2 : decide ((x.length : Int) ≤ 3) = false := decide_eq_false (by omega)
        rw [a2, decide_eq_false h0, decide_eq_false h3]
        simp
  | _ => rfl
theorem let_name (d : PyData) : letD 1 8 d = isNameD d := by
  cases d with
  | str x =>
    simp only [letD, isNameD]
    have a1 : decide ((1 : Int) ≤ (x.length : Int)) = decide (1 ≤ x.length) := decide_eq_decide.mpr (by omega)
    have a2 : decide ((x.length : Int) ≤ 8) = decide (x.length ≤ 8) := decide_eq_decide.mpr (by omega)
    rw [a1, a2]
  | _ => rfl
section
variable {P : Program} {w : World} {K : PySem.W.Frag} {mg : Str → Option Value} {base : Heap}
theorem call_isinstK {X : Cx} (K' : PySem.W.Frag) (hK : X.K = K') : CallR X (.builtin "isinstance") (fun xs H Q => ∃ x c t b, xs = [x, .ty c] ∧ TyOf K' H x t ∧ PySem.W.kitOne K' t (.type c) = some b ∧ Q (.bl b) H) := by
  subst hK
  exact call_isinst
theorem ty_int (KF : KitF K) {H : Hp} : ∀ {d : PyData} {v : V}, Thg H d v → ∃ t, TyOf K H v t ∧ PySem.W.kitOne K t (.type "int") = some (isIB d)
  | .none, v, h => by cases (show v = .non from h); exact ⟨_, .non, KF.ni⟩
  | .bool b, v, h => by cases (show v = .bl b from h); exact ⟨_, .bl _, KF.bi⟩
  | .int i, v, h => by cases (show v = .int i from h); exact ⟨_, .int _, rfl⟩
  | .str x, v, h => by cases (show v = .str x from h); exact ⟨_, .str _, KF.si⟩
  | .list ds, v, h => by obtain ⟨a, xs, rfl, h1, _⟩ := h; exact ⟨_, .lst h1, KF.li⟩
  | .tuple ds, v, h => by obtain ⟨a, xs, rfl, h1, _⟩ := h; exact ⟨_, .tup h1, KF.ti⟩
  | .dict _, v, h => h.elim
abbrev sLWish : Stmt := top 47
theorem scLWish : FnScope ["_law_thing", "_law_least", "_law_most", "_law_head", "_law_tail", "_law_barred", "_law_told_here"] ["_law_thing"] (defScope sLWish) := ⟨rfl, rfl, rfl, by decide +kernel, rfl, by decide +kernel, by decide +kernel⟩
theorem ndLW : (["_law_one"] : List Str).Nodup := by decide +kernel
theorem ok_lwish {f : Addr} {fd : FuncData} (F : Fun K "_law_is_wish" "_law_is_wish" sLWish f fd) (B : Blt mg) (C : Cst K mg) (KF : KitF K) (KB : KitB K) (hli : mg "list" = none) (hse : mg "set" = none) (cL : Cal P w K mg base 1 "_law_letters" ["_law_thing", "_law_least", "_law_most"] spLet) : FnOk P w K mg base CX0 2 f fd ["_law_thing"] spWish := by
  refine F.ok scLWish (fun vs H Q E h => ?_) (fun cdv A outer s H vs Q E hr h => ?_)
  · obtain ⟨v, d, rfl, _⟩ := h; rfl
  · obtain ⟨v, d, rfl, hv, hs, hsh, k⟩ := h
    have hu := hr.units
    have nd := scLWish.nd
    refine ⟨_, pss_cons (ps_if (PW.pt (pw_or (pt_not (pt_val (pe_callB call_isinst (by rfl) B.isinstance PyProof.Rows.boot_isinstance (pa_cons (pv 0) (pa_cons (pe_bltn (v := .ty "tuple") (by rfl) B.tuple PyProof.Rows.boot_tuple rfl) pa_nil)))))
        (pw_or1 (pt_cmpR op_ne (pe_callB call_len_seq (by rfl) B.len PySem.boot_len (pa_cons (pv 0) pa_nil)) pe_int (nomark _)))))
        (pss_one (ps_ret pe_bl)) pss_nil)
      (pss_cons (ps_asg (pv 0) (pg_tup rfl (pgs_cons (pg_name (i := 1) nd rfl (Or.inl rfl)) (pgs_cons (pg_name (i := 2) nd rfl (Or.inl rfl)) (pgs_cons (pg_name (i := 3) nd rfl (Or.inl rfl)) (pgs_cons (pg_name (i := 4) nd rfl (Or.inl rfl)) (pgs_cons (pg_name (i := 5) nd rfl (Or.inl rfl)) (pgs_cons (pg_name (i := 6) nd rfl (Or.inl rfl)) pgs_nil)))))) rfl rfl))
      (pss_cons (ps_if (pt_cmpR (op_neD hu) (pe_comp (N := ["_law_one"]) (caps := []) rfl (compScope_of (by kernel_rfl)) (pi_tup (pe_tup (pa_cons (pv 1) (pa_cons (pv 2) pa_nil))))
          (fun cl C s H ex => pg_name (i := 0) ndLW rfl (Or.inl rfl)) (fun cl C s H ex => pf_one (PW.pt (pw_or (pt_not (pt_val (pe_callB (call_isinstK K rfl) (by rfl) B.isinstance PyProof.Rows.boot_isinstance (pa_cons (pv 0) (pa_cons (pe_bltn (v := .ty "int") (by rfl) B.int PyProof.Rows.boot_int rfl) pa_nil)))))
            (pw_or1 (pt_val (pe_callB (call_isinstK K rfl) (by rfl) B.isinstance PyProof.Rows.boot_isinstance (pa_cons (pv 0) (pa_cons (pe_bltn (v := .ty "bool") (by rfl) B.bool PyProof.Rows.boot_bool rfl) pa_nil))))))))
          (fun cl C s H ex => pv 0)) (pe_lst pa_nil) (nomark _)) (pss_one (ps_ret pe_bl)) pss_nil)
      (pss_cons (ps_if (PW.pt (pw_or (pt_not (pt_chain3 op_le op_le op_le pe_int (pv 1) (pv 2) pe_int)) (pw_or (pt_not (pt_val (pe_cal cL hr rfl (pa_cons (pv 3) (pa_cons pe_int (pa_cons pe_int pa_nil)))))) (pw_or1 (pt_not (pt_val (pe_cal cL hr rfl (pa_cons (pv 4) (pa_cons pe_int (pa_cons pe_int pa_nil)))))))))) (pss_one (ps_ret pe_bl)) pss_nil)
      (pss_cons (ps_if (PW.pt (pw_or (pt_not (pt_val (pe_callB call_isinst (by rfl) B.isinstance PyProof.Rows.boot_isinstance (pa_cons (pv 5) (pa_cons (pe_bltn (v := .ty "tuple") (by rfl) B.tuple PyProof.Rows.boot_tuple rfl) pa_nil)))))
          (pw_or (pt_cmpR op_gt (pe_callB call_len_seq (by rfl) B.len PySem.boot_len (pa_cons (pv 5) pa_nil)) pe_int (nomark _)) (pw_or1 (pt_not (pt_val (pe_callB call_isinst (by rfl) B.isinstance PyProof.Rows.boot_isinstance (pa_cons (pv 6) (pa_cons (pe_bltn (v := .ty "bool") (by rfl) B.bool PyProof.Rows.boot_bool rfl) pa_nil))))))))) (pss_one (ps_ret pe_bl)) pss_nil)
      (pss_cons (ps_if (pt_cmpR (op_neD hu) (pe_comp (N := ["_law_one"]) (caps := []) rfl (compScope_of (by kernel_rfl)) (pi_tup (pv 5))
          (fun cl C s H ex => pg_name (i := 0) ndLW rfl (Or.inl rfl)) (fun cl C s H ex => pf_one (pt_not (pt_val (pe_cal cL hr rfl (pa_cons (pv 0) (pa_cons pe_int (pa_cons pe_int pa_nil)))))))
          (fun cl C s H ex => pv 0)) (pe_lst pa_nil) (nomark _)) (pss_one (ps_ret pe_bl)) pss_nil)
      (pss_one (ps_ret (pe_cmpR (op_eqD hu) (pe_callTy call_list_of (by rfl) hli PyProof.Rows.boot_list (pa_cons (pv 5) pa_nil)) (pe_sset rfl (pv 5) (by rfl) B.sorted PyProof.Rows.boot_sorted (by rfl) hse (by decide +kernel)) (nomark _))))))))), ?_⟩
    obtain ⟨t, b, hty, hkit, hb⟩ := ty_tup KF hv
    refine ⟨_, rfl, _, _, t, b, rfl, hty, hkit, b, rfl, ?_⟩
    cases b with
    | false =>
      have hd : isWishD d = false := by
        cases d with
        | tuple x => exact absurd (hb.mpr ⟨x, rfl⟩) (by decide)
        | _ => rfl
      rw [hd] at k
      exact iteT (iteT (k H (Same.refl H)))
    | true =>
      obtain ⟨ds, rfl⟩ := hb.mp rfl
      obtain ⟨a, xs, rfl, ha, hxs⟩ := hv
      have hsx : ds.length ≤ 900 ∧ smls ds = true := by
        simp only [sml, Bool.and_eq_true, decide_eq_true_eq] at hs
        exact hs
      have hxl : xs.length = ds.length := hxs.length.symm
      refine iteF ?_
      refine ⟨_, rfl, _, _, rfl, .inr (.of ha), rfl, _, rfl, ?_⟩
      by_cases hl : ds.length = 6
      · refine iteNS (by rw [hxl, hl]; rfl) ?_
        obtain ⟨a0, a1, a2, a3, a4, a5, rfl⟩ := six hl
        obtain ⟨y0, ys0, rfl, q0, hxs⟩ := hxs
        obtain ⟨y1, ys1, rfl, q1, hxs⟩ := hxs
        obtain ⟨y2, ys2, rfl, q2, hxs⟩ := hxs
        obtain ⟨y3, ys3, rfl, q3, hxs⟩ := hxs
        obtain ⟨y4, ys4, rfl, q4, hxs⟩ := hxs
        obtain ⟨y5, ys5, rfl, q5, hxs⟩ := hxs
        cases (show ys5 = [] from hxs)
        have sm_ : ∀ d ∈ [a0, a1, a2, a3, a4, a5], sml d = true := fun d hd => smls_mem hsx.2 hd
        have sh_ : ∀ d ∈ [a0, a1, a2, a3, a4, a5], SeqAt.shaped d = true := fun d hd => shaped_part hsh hd
        refine ⟨_, rfl, a, _, rfl, .of ha, rfl, _, _, rfl, _, _, rfl, _, _, rfl, _, _, rfl, _, _, rfl, _, _, rfl, rfl, ?_⟩
        refine ⟨_, rfl, _, rfl, by show 2 ≤ sizeLine; decide, fun p hp => ?_⟩
        have s0 := Same.upd1 (o := .tup [y0, y1]) hp
        have hp0 : (upd H p (.tup [y0, y1])) p = some (.tup [y0, y1]) := upd_same
        generalize upd H p (.tup [y0, y1]) = H0 at s0 hp0
        refine ⟨p, rfl, ⟨_, .of hp0⟩, ?_⟩
        have t2 : Thgs H [a0, a1] [y0, y1] := ⟨_, _, rfl, q0, _, _, rfl, q1, rfl⟩
        have sh2 : SeqAt.shaped (.tuple [a0, a1]) = true := by
          have c0 := SeqAt.canLay_of_shaped (sh_ a0 (by simp))
          have c1 := SeqAt.canLay_of_shaped (sh_ a1 (by simp))
          have d0 := depth_mem (ds := [a0, a1, a2, a3, a4, a5]) (d := a0) (by simp)
          have d1 := depth_mem (ds := [a0, a1, a2, a3, a4, a5]) (d := a1) (by simp)
          have dd := SeqAt.depth_of_shaped hsh
          have de : (PyData.tuple [a0, a1, a2, a3, a4, a5]).depth = PyData.depthAll [a0, a1, a2, a3, a4, a5] + 1 := by simp only [PyData.depth]
          rw [de] at dd
          generalize PyData.depthAll [a0, a1, a2, a3, a4, a5] = N at d0 d1 dd
          have df : (PyData.tuple [a0, a1]).depth ≤ 64 := by
            have e2 : (PyData.tuple [a0, a1]).depth = max a0.depth (max a1.depth 0) + 1 := by simp only [PyData.depth, PyData.depthAll]
            rw [e2]; omega
          have cf : (PyData.tuple [a0, a1]).canLay0 = true := by simp only [PyData.canLay0, PyData.canLayAll0, c0, c1, Bool.and_self]
          unfold SeqAt.shaped
          rw [cf, decide_eq_true df]; rfl
        refine comp_known (known_tup _ p [y0, y1]) [] 1 (by show 2 < 1000; decide) (fun i acc H' => Same H0 H' ∧ acc.length ≤ i ∧ Thgs H' (([a0, a1].take i).filter fun e => !isIntD e) acc) ⟨Same.refl H0, Nat.le_refl _, rfl⟩ (fun i acc H' _ h => ⟨.of (h.1 _ _ hp0), h.2.1⟩) ?_ ?_
        · rintro i y acc H' ys Nx hN hx hy ⟨sm, hal, ht⟩
          obtain ⟨y', rfl⟩ := ys1 hy
          obtain ⟨e, he, hye⟩ := t2.get hx
          have hi : i < [a0, a1].length := (List.getElem?_eq_some_iff.mp he).1
          have etk : [a0, a1].take (i + 1) = [a0, a1].take i ++ [e] := by rw [List.take_succ_eq_append_getElem hi, (List.getElem?_eq_some_iff.mp he).2]
          have s0m := s0.trans sm
          have hyH := Thg.same s0m _ _ hye
          obtain ⟨t3, ty3, k3⟩ := ty_int KF hyH
          obtain ⟨t4, ty4, k4⟩ := ty_bool KB C hyH
          have keep : isIntD e = true → Nx acc ([] ++ [some y]) H' := fun hc => hN _ _ [some y] rfl ⟨sm, by omega, by rw [etk, List.filter_append]; simpa [hc] using ht⟩
          have more : isIntD e = false → Nx (acc ++ [y]) ([] ++ [some y]) H' := fun hc => hN _ _ [some y] rfl ⟨sm, by rw [List.length_append]; show _ + 1 ≤ _; omega, by
            rw [etk, List.filter_append]
            have e1 : [e].filter (fun e => !isIntD e) = [e] := by simp [hc]
            rw [e1]
            exact Thgs.append ht ⟨_, _, rfl, hyH, rfl⟩⟩
          refine ⟨_, rfl, _, _, t3, _, rfl, ty3, k3, _, rfl, ?_⟩
          cases e with
          | int i =>
            refine iteF ⟨_, rfl, _, _, t4, _, rfl, ty4, k4, _, rfl, ?_⟩
            exact iteF (keep rfl)
          | bool b =>
            refine iteF ⟨_, rfl, _, _, t4, _, rfl, ty4, k4, _, rfl, ?_⟩
            exact iteT ⟨_, rfl, more rfl⟩
          | _ => exact iteT (iteT ⟨_, rfl, more rfl⟩)
        · rintro acc H1 ⟨sm, hal, ht⟩ D hD
          rw [show [a0, a1].take [y0, y1].length = [a0, a1] from rfl] at ht
          have u1 := Same.upd1 (o := .lst acc) hD
          refine ⟨by show 0 ≤ sizeLine; decide, fun p2 hp2 => ?_⟩
          have u2 := Same.upd1 (o := .lst []) hp2
          refine ⟨.list ([a0, a1].filter fun e => !isIntD e), .list [], repL (u2 _ _ upd_same) (Thgs.reps _ _ (Thgs.same (u1.trans u2) _ _ ht)), repL upd_same rfl, filter_shaped sh2, rfl, _, rfl, ?_⟩
          have sA := s0.trans (sm.trans (u1.trans u2))
          generalize upd (upd H1 D (.lst acc)) p2 (.lst []) = HA at sA
          rw [show (if true = true then !PyData.eqv (.list ([a0, a1].filter fun e => !isIntD e)) (.list []) else PyData.eqv (.list ([a0, a1].filter fun e => !isIntD e)) (.list [])) = !([a0, a1].filter fun e => !isIntD e).isEmpty by rw [eqv_nil]; rfl]
          by_cases hints : isIntD a0 = true ∧ isIntD a1 = true
          · obtain ⟨n0, n1⟩ := hints
            have ef : (!([a0, a1].filter fun e => !isIntD e).isEmpty) = false := by simp [n0, n1]
            rw [ef]
            refine iteF ?_
            obtain ⟨i0, rfl⟩ : ∃ i, a0 = .int i := by cases a0 <;> first | exact ⟨_, rfl⟩ | cases n0
            obtain ⟨i1, rfl⟩ : ∃ i, a1 = .int i := by cases a1 <;> first | exact ⟨_, rfl⟩ | cases n1
            cases (show y0 = .int i0 from q0)
            cases (show y1 = .int i1 from q1)
            have no : ∀ {b : Bool}, b = false → ((isWholeD 1 8 (.int i0) && isWholeD i0 8 (.int i1)) = b) → ∀ H', Same H H' → Q (.bl false) H' := fun hb e H' sm' => by
              have e2 : isWishD (.tuple [.int i0, .int i1, a2, a3, a4, a5]) = false := by simp only [isWishD, intD, e, hb, Bool.false_and]
              rw [e2] at k
              exact k H' sm'
            refine ⟨_, rfl, _, _, rfl, rfl, _, rfl, ?_⟩
            by_cases h1 : (1 : Int) ≤ i0
            case neg => exact iteDF h1 (iteT (iteT (no rfl (by simp [isWholeD, h1]) _ sA)))
            refine iteD h1 ⟨_, rfl, _, _, rfl, rfl, _, rfl, ?_⟩
            by_cases h2 : i0 ≤ i1
            case neg => exact iteDF h2 (iteT (iteT (no rfl (by simp [isWholeD, h2]) _ sA)))
            refine iteD h2 ⟨_, _, rfl, rfl, _, rfl, ?_⟩
            by_cases h3 : i1 ≤ 8
            case neg => exact ite_nn h3 (iteT (no rfl (by simp [isWholeD, h3]) _ sA))
            refine iteNS h3 ?_
            have w0 : isWholeD 1 8 (.int i0) = true := by simp [isWholeD, h1]; omega
            have w1 : isWholeD i0 8 (.int i1) = true := by simp [isWholeD, h2, h3]
            refine ⟨_, rfl, y2, a2, 0, 3, rfl, Thg.same sA _ _ q2, sm_ a2 (by simp), fun HB s1 => ⟨_, rfl, ?_⟩⟩
            have sB := sA.trans s1
            rw [let_edge]
            cases e2 : isEdgeD a2 with
            | false =>
              have e : isWishD (.tuple [.int i0, .int i1, a2, a3, a4, a5]) = false := by simp only [isWishD, e2, Bool.false_and, Bool.and_false]
              rw [e] at k
              exact iteT (iteT (k HB sB))
            | true =>
            refine iteF ?_
            refine ⟨_, rfl, y3, a3, 0, 3, rfl, Thg.same sB _ _ q3, sm_ a3 (by simp), fun HC s2 => ⟨_, rfl, ?_⟩⟩
            have sC := sB.trans s2
            rw [let_edge]
            cases e3 : isEdgeD a3 with
            | false =>
              have e : isWishD (.tuple [.int i0, .int i1, a2, a3, a4, a5]) = false := by simp only [isWishD, e3, Bool.false_and, Bool.and_false]
              rw [e] at k
              exact iteT (k HC sC)
            | true =>
            refine iteF ?_
            obtain ⟨t4, b4, ty4, k4, hb4⟩ := ty_tup KF (Thg.same sC _ _ q4)
            refine ⟨_, rfl, _, _, t4, b4, rfl, ty4, k4, b4, rfl, ?_⟩
            have nobar : isBarredD a4 = false → ∀ H', Same H H' → Q (.bl false) H' := fun e4 H' sm' => by
              have e : isWishD (.tuple [.int i0, .int i1, a2, a3, a4, a5]) = false := by simp only [isWishD, e4, Bool.false_and, Bool.and_false]
              rw [e] at k
              exact k H' sm'
            cases b4 with
            | false =>
              refine iteT (iteT (nobar ?_ HC sC))
              cases a4 with
              | tuple x => exact absurd (hb4.mpr ⟨x, rfl⟩) (by decide)
              | _ => rfl
            | true =>
            obtain ⟨es, rfl⟩ := hb4.mp rfl
            obtain ⟨a', xs, rfl, ha4, hxs4⟩ := Thg.same sC _ _ q4
            have hxl4 : xs.length = es.length := hxs4.length.symm
            refine iteF ?_
            refine ⟨_, rfl, _, _, rfl, .inr (.of ha4), _, _, rfl, rfl, _, rfl, ?_⟩
            by_cases h6 : es.length ≤ 6
            case neg => exact iteD (by rw [hxl4]; omega) (iteT (nobar (by simp [isBarredD, h6]) HC sC))
            refine iteDF (by rw [hxl4]; omega) ?_
            obtain ⟨t5, ht5, hk5⟩ := ty_bool KB C (Thg.same sC _ _ q5)
            refine ⟨_, rfl, _, _, t5, _, rfl, ht5, hk5, _, rfl, ?_⟩
            cases e5 : isBoolD a5 with
            | false =>
              have e : isWishD (.tuple [.int i0, .int i1, a2, a3, .tuple es, a5]) = false := by simp only [isWishD, e5, Bool.and_false]
              rw [e] at k
              exact iteT (k HC sC)
            | true =>
            refine iteF ?_
            have hse4 : smls es = true := by
              have := sm_ (.tuple es) (by simp)
              simp only [sml, Bool.and_eq_true] at this
              exact this.2
            have hsh4 : SeqAt.shaped (.tuple es) = true := sh_ _ (by simp)
            refine ⟨_, rfl, a', rfl, ⟨_, .of ha4⟩, ?_⟩
            refine comp_known (known_tup _ a' xs) [] 1 (by omega) (fun i acc H' => Same HC H' ∧ acc.length ≤ i ∧ Thgs H' ((es.take i).filter fun e => !isNameD e) acc) ⟨Same.refl HC, Nat.le_refl _, rfl⟩ (fun i acc H' _ h => ⟨.of (h.1 _ _ ha4), h.2.1⟩) ?_ ?_
            · rintro i y acc H' ys Nx hN hx hy ⟨sm, hal, ht⟩
              obtain ⟨y', rfl⟩ := ys1 hy
              obtain ⟨e, he, hye⟩ := hxs4.get hx
              have hi : i < es.length := (List.getElem?_eq_some_iff.mp he).1
              have etk : es.take (i + 1) = es.take i ++ [e] := by rw [List.take_succ_eq_append_getElem hi, (List.getElem?_eq_some_iff.mp he).2]
              refine ⟨_, rfl, y, e, 1, 8, rfl, Thg.same sm _ _ hye, smls_mem hse4 (List.mem_of_getElem? he), fun H5 sm5 => ⟨_, rfl, ?_⟩⟩
              rw [let_name]
              have ht5 := Thgs.same sm5 _ _ ht
              cases hc : isNameD e with
              | true => exact iteF (hN _ _ [some y] rfl ⟨sm.trans sm5, by omega, by rw [etk, List.filter_append]; simpa [hc] using ht5⟩)
              | false =>
                refine iteT ⟨_, rfl, hN _ _ [some y] rfl ⟨sm.trans sm5, by rw [List.length_append]; show _ + 1 ≤ _; omega, ?_⟩⟩
                rw [etk, List.filter_append]
                have e1 : [e].filter (fun e => !isNameD e) = [e] := by simp [hc]
                rw [e1]
                exact Thgs.append ht5 ⟨_, _, rfl, Thg.same (sm.trans sm5) _ _ hye, rfl⟩
            · rintro acc H1 ⟨sm, hal, ht⟩ D hD
              rw [hxl4, List.take_length] at ht
              have u1 := Same.upd1 (o := .lst acc) hD
              refine ⟨by show 0 ≤ sizeLine; decide, fun p2 hp2 => ?_⟩
              have u2 := Same.upd1 (o := .lst []) hp2
              refine ⟨.list (es.filter fun e => !isNameD e), .list [], repL (u2 _ _ upd_same) (Thgs.reps _ _ (Thgs.same (u1.trans u2) _ _ ht)), repL upd_same rfl, filter_shaped hsh4, rfl, _, rfl, ?_⟩
              have sD' := sm.trans (u1.trans u2)
              have sD := sC.trans sD'
              have ha5 := sD' _ _ ha4
              generalize upd (upd H1 D (.lst acc)) p2 (.lst []) = HD at sD ha5
              rw [show (if true = true then !PyData.eqv (.list (es.filter fun e => !isNameD e)) (.list []) else PyData.eqv (.list (es.filter fun e => !isNameD e)) (.list [])) = !(es.filter fun e => !isNameD e).isEmpty by rw [eqv_nil]; rfl]
              cases hn : es.all isNameD with
              | false =>
                have ef : (!(es.filter fun e => !isNameD e).isEmpty) = true := by
                  rw [Bool.not_eq_true', Bool.eq_false_iff]
                  intro z
                  rw [List.isEmpty_iff, List.filter_eq_nil_iff] at z
                  have : es.all isNameD = true := List.all_eq_true.mpr fun d hd => by have := z d hd; simpa using this
                  rw [hn] at this; cases this
                rw [ef]
                exact iteT (nobar (by simp only [isBarredD, hn, Bool.false_and, Bool.and_false]) HD sD)
              | true =>
                have ef : (!(es.filter fun e => !isNameD e).isEmpty) = false := by
                  rw [Bool.not_eq_false', List.isEmpty_iff, List.filter_eq_nil_iff]
                  intro d hd
                  rw [List.all_eq_true.mp hn d hd]; decide
                rw [ef]
                refine iteF ?_
                obtain ⟨ba, rfl, hba⟩ := names_inv (fun d hd => List.all_eq_true.mp hn d hd)
                rw [Thgs.strs_inv hxs4] at ha5
                rw [List.length_map] at h6
                refine ⟨_, rfl, a', _, rfl, .inr (.of ha5), fun l hl => ?_⟩
                have v1 := Same.upd1 (o := .lst (ba.map sv)) hl
                refine ⟨_, rfl, a', ba.map tx, rfl, .of (by rw [v1 _ _ ha5, List.map_map]; rfl), by rw [List.length_map]; omega, fun out l2 hmem hsrt hl2 => ?_⟩
                have v2 := Same.upd1 (o := .lst (out.map V.str)) hl2
                have rpf : ∀ (H2 : Hp) (l : List Str), Reps K H2 (l.map fun c => PyData.str c) (l.map V.str) := fun H2 l => by
                  induction l with
                  | nil => exact rfl
                  | cons t l ih => exact ⟨_, _, rfl, rfl, ih⟩
                have es1 : (ba.map sv) = (ba.map tx).map V.str := by rw [List.map_map]; rfl
                have shl : ∀ l : List Str, (∀ x ∈ l, ∃ y ∈ ba, tx y = x) → SeqAt.shaped (.list (l.map fun c => PyData.str c)) = true := fun l hl => by
                  refine (shaped_list fun d hd => ?_).1
                  obtain ⟨c, hc, rfl⟩ := List.mem_map.mp hd
                  obtain ⟨y, hy, rfl⟩ := hl c hc
                  refine ⟨?_, by simp only [PyData.depth]; decide⟩
                  simp only [PyData.canLay0]
                  exact strOk_of fun c hc => ((hba y hy).2.2 c hc).2
                refine ⟨.list ((ba.map tx).map fun c => PyData.str c), .list (out.map fun c => PyData.str c), repL (v2 _ _ upd_same) (by rw [es1]; exact rpf _ _), repL upd_same (rpf _ _), shl _ (fun x hx => by obtain ⟨y, hy, e⟩ := List.mem_map.mp hx; exact ⟨y, hy, e⟩), shl _ (fun x hx => by obtain ⟨y, hy, e⟩ := List.mem_map.mp ((hmem x).mp hx); exact ⟨y, hy, e⟩), ?_⟩
                have ew : isWishD (.tuple [.int i0, .int i1, a2, a3, .tuple (ba.map fun x => PyData.str (tx x)), a5]) = risT ba := by
                  have e3' : (ba.map fun x => PyData.str (tx x)).map txtD = ba := by
                    rw [List.map_map]
                    conv => rhs; rw [← List.map_id ba]
                    refine List.map_congr_left fun x _ => ?_
                    show (tx x).cps.toList = x
                    rw [tx_cps]
                  simp only [isWishD, intD, w0, w1, e2, e3, e5, isBarredD, hn, e3', List.length_map, decide_eq_true h6, Bool.true_and, Bool.and_true]
                have eq1 : PyData.eqv (.list ((ba.map tx).map fun c => PyData.str c)) (.list (out.map fun c => PyData.str c)) = risT ba := by
                  rw [eqv_strs, Bool.eq_iff_iff, decide_eq_true_eq, ris_iff]
                  constructor
                  · intro z
                    rw [← z, List.pairwise_map] at hsrt
                    simpa only [tx_cps] using hsrt
                  · intro z
                    have z2 : (out.map fun x => x.cps.toList).Pairwise (· < ·) := List.pairwise_map.mpr hsrt
                    have e6 := ris_ext z z2 fun x => by
                      rw [List.mem_map]
                      constructor
                      · intro hx
                        exact ⟨tx x, (hmem _).mpr (List.mem_map.mpr ⟨x, hx, rfl⟩), tx_cps x⟩
                      · rintro ⟨y, hy, rfl⟩
                        obtain ⟨z, hz, e⟩ := List.mem_map.mp ((hmem y).mp hy)
                        have : z = y.cps.toList := by rw [← e, tx_cps]
                        rw [← this]; exact hz
                    rw [e6, List.map_map]
                    conv => rhs; rw [← List.map_id out]
                    exact List.map_congr_left fun x _ => tx_eta x
                rw [ew] at k
                show Q (.bl (PyData.eqv (.list ((ba.map tx).map fun c => PyData.str c)) (.list (out.map fun c => PyData.str c)))) _
                rw [eq1]
                exact k _ (sD.trans (v1.trans v2))
          · have e : isWishD (.tuple [a0, a1, a2, a3, a4, a5]) = false := by
              have : (isWholeD 1 8 a0 && isWholeD (intD a0) 8 a1) = false := by
                cases a0 with
                | int i => cases a1 with
                  | int j => exact absurd ⟨rfl, rfl⟩ hints
                  | _ => exact Bool.and_false _
                | _ => rfl
              simp only [isWishD, this, Bool.false_and]
            have ef : (!([a0, a1].filter fun e => !isIntD e).isEmpty) = true := by
              rw [Bool.not_eq_true', Bool.eq_false_iff]
              intro z
              rw [List.isEmpty_iff, List.filter_eq_nil_iff] at z
              exact hints ⟨by simpa using z a0 (by simp), by simpa using z a1 (by simp)⟩
            rw [ef]
            rw [e] at k
            exact iteT (k _ sA)
      · have e : isWishD (.tuple ds) = false := wish_len hl
        rw [e] at k
        refine ite_nn ?_ (k H (Same.refl H))
        intro z
        injection z with z
        rw [hxl] at z
        omega
end
end Kn
end
section
set_option Elab.async false
set_option linter.all false
set_option maxRecDepth 100000
set_option maxHeartbeats 1000000
namespace Kn
open PySem L2
def names6 : List S := [[97], [97, 97], [97, 98], [98], [98, 97], [122]]
def ends7 : List S := [[], [], [97], [98], [97, 98], [97, 98, 97], [122]]
theorem names6_V : [V.str "a", V.str "aa", V.str "ab", V.str "b", V.str "ba", V.str "z"] = bkV names6 := by
  have e1 : ("a" : Str) = tx [97] := by decide +kernel
  have e2 : ("aa" : Str) = tx [97, 97] := by decide +kernel
  have e3 : ("ab" : Str) = tx [97, 98] := by decide +kernel
  have e4 : ("b" : Str) = tx [98] := by decide +kernel
  have e5 : ("ba" : Str) = tx [98, 97] := by decide +kernel
  have e6 : ("z" : Str) = tx [122] := by decide +kernel
  rw [e1, e2, e3, e4, e5, e6]; rfl
theorem ends7_V : [V.str "", V.str "", V.str "a", V.str "b", V.str "ab", V.str "aba", V.str "z"] = bkV ends7 := by
  have e0 : ("" : Str) = tx [] := by decide +kernel
  have e1 : ("a" : Str) = tx [97] := by decide +kernel
  have e3 : ("ab" : Str) = tx [97, 98] := by decide +kernel
  have e4 : ("b" : Str) = tx [98] := by decide +kernel
  have e5 : ("aba" : Str) = tx [97, 98, 97] := by decide +kernel
  have e6 : ("z" : Str) = tx [122] := by decide +kernel
  rw [e0, e1, e3, e4, e5, e6]; rfl
theorem names6_ok : names6.Pairwise (· < ·) ∧ ∀ x ∈ names6, isNm x := by
  refine ⟨(ris_iff _).mp (by decide), fun x hx => ?_⟩
  unfold names6 at hx
  simp only [List.mem_cons, List.not_mem_nil, or_false] at hx
  rcases hx with rfl | rfl | rfl | rfl | rfl | rfl <;> (refine ⟨by decide, by decide, ?_⟩; decide)
theorem ends7_ok : ∀ x ∈ ends7, x = [] ∨ (isNm x ∧ x.length ≤ 3) := fun x hx => by
  unfold ends7 at hx
  simp only [List.mem_cons, List.not_mem_nil, or_false] at hx
  rcases hx with rfl | rfl | rfl | rfl | rfl | rfl | rfl
  · exact .inl rfl
  · exact .inl rfl
  all_goals (refine .inr ⟨⟨by decide, by decide, ?_⟩, by decide⟩; decide)
theorem sub_ok {l : List S} (h : l.Sublist names6) : l.length ≤ 6 ∧ (∀ x ∈ l, isNm x) ∧ risT l = true :=
  ⟨h.length_le, fun x hx => names6_ok.2 x (h.subset hx), (ris_iff _).mpr (names6_ok.1.sublist h)⟩
section
variable {P : Program} {w : World} {K : PySem.W.Frag} {mg : Str → Option Value} {base : Heap}
def spLW (K : PySem.W.Frag) : Sp := fun vs H Q _ => ∃ (a : Addr) (ns : List Int) (at' : Nat), vs = [.ref a, .int at'] ∧ SqL K H a (ns.map V.int) ∧ ns.length ≤ 63 ∧
  ∀ (p : Addr) (lo hi : Int) (hd tl : S) (ba : List S) (to : Bool) (H' : Hp), Same H H' → GW lo hi hd tl ba → WishAt H' p lo hi hd tl ba to → Q (.ref p) H'
abbrev sLW : Stmt := top 42
theorem scLW : FnScope ["_law_script", "_law_at", "_law_least", "_law_most", "_law_ends", "_law_barred", "_law_k", "_law_name_here", "_law_head"] ["_law_script", "_law_at"] (defScope sLW) := ⟨rfl, rfl, rfl, by decide +kernel, rfl, by decide +kernel, by decide +kernel⟩
theorem ok_lw {f : Addr} {fd : FuncData} (F : Fun K "_law_wish" "_law_wish" sLW f fd) (B : Blt mg) (hen : mg "enumerate" = none) (cD : Cal P w K mg base 2 "_law_drawn" ["_law_script", "_law_k", "_law_many"] (spDrawn K)) : FnOk P w K mg base CX0 3 f fd ["_law_script", "_law_at"] (spLW K) := by
  refine F.ok scLW (fun vs H Q E h => ?_) (fun cdv A outer s H vs Q E hr h => ?_)
  · obtain ⟨a, ns, at', rfl, _⟩ := h; rfl
  · obtain ⟨a, ns, at', rfl, hsc, h63, k⟩ := h
    have nd := scLW.nd
    refine ⟨_, pss_cons (ps_set (i := 2) nd rfl (Or.inl rfl) (pe_op op_add pe_int (pe_cal cD hr rfl (pa_cons (pv 0) (pa_cons (pv 1) (pa_cons pe_int pa_nil))))))
      (pss_cons (ps_set (i := 3) nd rfl (Or.inl rfl) (pe_op op_add (pv 2) (pe_cal cD hr rfl (pa_cons (pv 0) (pa_cons (pe_op op_add (pv 1) pe_int) (pa_cons (pe_op op_sub pe_int (pv 2)) pa_nil))))))
      (pss_cons (ps_set (i := 4) nd rfl (Or.inl rfl) (pe_lst (pa_cons pe_str (pa_cons pe_str (pa_cons pe_str (pa_cons pe_str (pa_cons pe_str (pa_cons pe_str (pa_cons pe_str pa_nil)))))))))
      (pss_cons (ps_set (i := 5) nd rfl (Or.inl rfl) (pe_lst pa_nil))
      (pss_cons (ps_for PassesOwn.never rfl (pi_enum rfl hen (pa_cons (pe_lst (pa_cons pe_str (pa_cons pe_str (pa_cons pe_str (pa_cons pe_str (pa_cons pe_str (pa_cons pe_str pa_nil))))))) pa_nil)) (pg_tup rfl (pgs_cons (pg_name (i := 6) nd rfl (Or.inl rfl)) (pgs_cons (pg_name (i := 7) nd rfl (Or.inl rfl)) pgs_nil)))
        (pss_one (ps_if (pt_cmpR op_eq (pe_cal cD hr rfl (pa_cons (pv 0) (pa_cons (pe_op op_add (pe_op op_add (pv 1) pe_int) (pv 6)) (pa_cons pe_int pa_nil)))) pe_int (nomark _))
          (pss_one (ps_expr (pe_bm PySem.F.plainAttrs_list PySem.F.slot_list_append PySem.F.type_list_append mt_append (pv 5) (pa_cons (pv 7) pa_nil)))) pss_nil)))
      (pss_cons (ps_set (i := 8) nd rfl (Or.inl rfl) (pe_ix ix_list (pv 4) (pe_cal cD hr rfl (pa_cons (pv 0) (pa_cons (pe_op op_add (pv 1) pe_int) (pa_cons pe_int pa_nil)))) (fun _ _ => rfl)))
      (pss_one (ps_ret (pe_tup (pa_cons (pv 2) (pa_cons (pv 3) (pa_cons (pv 8) (pa_cons (pe_ix ix_list (pv 4) (pe_cal cD hr rfl (pa_cons (pv 0) (pa_cons (pe_op op_add (pv 1) pe_int) (pa_cons pe_int pa_nil)))) (fun _ _ => rfl))
        (pa_cons (pe_callTy call_tuple_of (by rfl) B.tuple PyProof.Rows.boot_tuple (pa_cons (pv 5) pa_nil)) (pa_cons (pe_cmpR op_eq (pe_cal cD hr rfl (pa_cons (pv 0) (pa_cons (pe_op op_add (pv 1) pe_int) (pa_cons pe_int pa_nil)))) pe_int (nomark _)) pa_nil)))))))))))))), ?_⟩
    refine ⟨_, rfl, _, rfl, a, ns, at', 3, rfl, hsc, h63, by decide, by decide, fun d0 H1 hd0 s1 => ?_⟩
    refine ⟨_, _, rfl, rfl, _, rfl, _, rfl, _, rfl, _, _, rfl, rfl, _, rfl, _, _, rfl, rfl, a, ns, at' + 1, 4 - d0, ?_, s1.seq hsc, h63, by omega, by omega, fun d1 H2 hd1 s2' => ?_⟩
    · have e1 : ((at' + 1 : Nat) : Int) = (at' : Int) + 1 := by omega
      have e2 : ((4 - d0 : Nat) : Int) = 5 - (1 + (d0 : Int)) := by omega
      rw [e1, e2]; rfl
    have s2 := s1.trans s2'
    refine ⟨_, _, rfl, rfl, ?_⟩
    refine ⟨by show 7 ≤ sizeLine; decide, fun pe hpe => ?_⟩
    have hpe1 : (upd H2 pe (.lst [V.str "", V.str "", V.str "a", V.str "b", V.str "ab", V.str "aba", V.str "z"])) pe = some (.lst (bkV ends7)) := by rw [upd_same, ends7_V]
    have s3 := s2.trans (Same.upd1 (o := .lst [V.str "", V.str "", V.str "a", V.str "b", V.str "ab", V.str "aba", V.str "z"]) hpe)
    generalize upd H2 pe (.lst [V.str "", V.str "", V.str "a", V.str "b", V.str "ab", V.str "aba", V.str "z"]) = HA at s3 hpe1 ⊢
    refine ⟨by show 0 ≤ sizeLine; decide, fun g hg => ?_⟩
    refine ⟨by show 6 ≤ sizeLine; decide, fun en hen2 => ⟨en, _, rfl, upd_same, ?_⟩⟩
    have neg : en ≠ g := fun z => by subst z; rw [upd_same] at hen2; cases hen2
    refine for_enum (K := K) (xs := [V.str "a", V.str "aa", V.str "ab", V.str "b", V.str "ba", V.str "z"]) (fun i σ H' => ∃ (y z : Option V) (sl : List S), σ = [some (.ref a), some (.int (at' : Int)), some (.int (1 + (d0 : Int))), some (.int (1 + (d0 : Int) + (d1 : Int))), some (.ref pe), some (.ref g), y, z, none] ∧ Same HA H' ∧ H' g = some (.lst (bkV sl)) ∧
        H' en = some (.lst [V.str "a", V.str "aa", V.str "ab", V.str "b", V.str "ba", V.str "z"]) ∧ sl.Sublist (names6.take i))
      ⟨_, _, [], rfl, (Same.upd1 hg).trans (Same.upd1 hen2), (Same.upd1 hen2) _ _ upd_same, upd_same, List.nil_sublist _⟩ (fun i σ H' _ h => by obtain ⟨_, _, _, _, _, _, h, _⟩ := h; exact .of h) ?_ ?_
    · rintro i x T σ H' Nx hN hx ⟨y, z, sl, rfl, sm, hg', hen', hsub⟩ hT
      have t1 : Same H' (upd H' T (.tup [.int i, x])) := Same.upd1 hT
      refine ⟨T, _, rfl, .of upd_same, rfl, _, _, rfl, _, _, rfl, rfl, ?_⟩
      have sm1 := sm.trans t1
      have hg1 := t1 _ _ hg'
      have he1 := t1 _ _ hen'
      rw [names6_V] at hx
      obtain ⟨nm, hnm, rfl⟩ := bkV_get hx
      have hi : i < names6.length := (List.getElem?_eq_some_iff.mp hnm).1
      have hi6 : i < 6 := hi
      have etk : names6.take (i + 1) = names6.take i ++ [nm] := by rw [List.take_succ_eq_append_getElem hi, (List.getElem?_eq_some_iff.mp hnm).2]
      refine ⟨_, rfl, _, rfl, _, _, rfl, rfl, _, rfl, _, _, rfl, rfl, a, ns, at' + 4 + i, 3, ?_, (s3.trans sm1).seq hsc, h63, by decide, by decide, fun d H3 hd s4 => ?_⟩
      · have e1 : ((at' + 4 + i : Nat) : Int) = (at' : Int) + 4 + (i : Int) := by omega
        rw [e1]; rfl
      have sm2 := sm1.trans s4
      have hg2 := s4 _ _ hg1
      have he2 := s4 _ _ he1
      refine ⟨rfl, _, rfl, ?_⟩
      by_cases hz : (d : Int) = 0
      · have e0 : decide (V.int (d : Int) = V.int 0) = true := decide_eq_true (by rw [hz])
        rw [e0]
        refine iteT ?_
        have hl6 : sl.length ≤ 6 := Nat.le_trans hsub.length_le (by rw [List.length_take]; omega)
        refine ⟨_, rfl, .inl ⟨rfl, _, .of hg2⟩, _, rfl, g, _, _, rfl, rfl, hg2, by unfold bkV; rw [List.length_map, sizeLine_eq]; omega, hN _ _ ⟨_, _, sl ++ [nm], rfl, sm2.upd_new hg, by rw [upd_same]; unfold bkV; rw [List.map_append]; rfl, by rw [upd_ne neg]; exact he2, ?_⟩⟩
        rw [etk]
        exact hsub.append (List.Sublist.refl _)
      · have e0 : decide (V.int (d : Int) = V.int 0) = false := decide_eq_false (fun q => hz (by injection q))
        rw [e0]
        refine iteF (hN _ _ ⟨_, _, sl, rfl, sm2, hg2, he2, ?_⟩)
        rw [etk]
        exact hsub.trans (List.sublist_append_left _ _)
    · rintro σ H' ⟨y, z, sl, rfl, sm, hg', hen', hsub⟩
      have hsub' : sl.Sublist names6 := hsub
      obtain ⟨b1, b2, b3⟩ := sub_ok hsub'
      have sH := s3.trans sm
      refine ⟨_, rfl, _, rfl, _, rfl, _, _, rfl, rfl, a, ns, at' + 2, 7, ?_, sH.seq hsc, h63, by decide, by decide, fun d2 H4 hd2 s4 => ?_⟩
      · have e1 : ((at' + 2 : Nat) : Int) = (at' : Int) + 2 := by omega
        rw [e1]; rfl
      have s4H := sH.trans s4
      have hpe4 := s4 _ _ (sm _ _ hpe1)
      have hg4 := s4 _ _ hg'
      have ge7 : ∀ {d : Nat}, d < 7 → ∃ x, ends7[d]? = some x ∧ (bkV ends7)[d]? = some (sv x) ∧ (x = [] ∨ (isNm x ∧ x.length ≤ 3)) := fun {d} hd => by
        have hd' : d < ends7.length := hd
        refine ⟨ends7[d], List.getElem?_eq_getElem hd', ?_, ends7_ok _ (List.getElem_mem hd')⟩
        unfold bkV
        rw [List.getElem?_map, List.getElem?_eq_getElem hd']; rfl
      obtain ⟨hx, _, hx2, hx3⟩ := ge7 hd2
      refine ⟨pe, _, (d2 : Int), sv hx, rfl, rfl, .of hpe4, atI_nat hx2, ?_⟩
      refine ⟨_, rfl, _, rfl, _, rfl, _, rfl, _, rfl, _, rfl, _, _, rfl, rfl, a, ns, at' + 3, 7, ?_, s4H.seq hsc, h63, by decide, by decide, fun d3 H5 hd3 s5 => ?_⟩
      · have e1 : ((at' + 3 : Nat) : Int) = (at' : Int) + 3 := by omega
        rw [e1]; rfl
      obtain ⟨tx', _, tx2, tx3⟩ := ge7 hd3
      have s5H := s4H.trans s5
      have hg5 := s5 _ _ hg4
      refine ⟨pe, _, (d3 : Int), sv tx', rfl, rfl, .of (s5 _ _ hpe4), atI_nat tx2, ?_⟩
      refine ⟨_, rfl, g, _, rfl, .inl ⟨.of hg5, fun pt hpt => ?_⟩⟩
      have t6 := Same.upd1 (o := .tup (bkV sl)) hpt
      have s6H := s5H.trans t6
      refine ⟨_, rfl, _, rfl, _, _, rfl, rfl, a, ns, at' + 10, 2, ?_, s6H.seq hsc, h63, by decide, by decide, fun d4 H7 hd4 s7 => ?_⟩
      · have e1 : ((at' + 10 : Nat) : Int) = (at' : Int) + 10 := by omega
        rw [e1]; rfl
      refine ⟨rfl, by show 6 ≤ sizeLine; decide, fun p hp => ?_⟩
      have t8 := Same.upd1 (o := .tup [.int (1 + (d0 : Int)), .int (1 + (d0 : Int) + (d1 : Int)), sv hx, sv tx', .ref pt, .bl (decide (V.int (d4 : Int) = V.int 0))]) hp
      refine k p (1 + (d0 : Int)) (1 + (d0 : Int) + (d1 : Int)) hx tx' sl (decide (V.int (d4 : Int) = V.int 0)) _ ((s6H.trans s7).trans t8) ⟨by omega, by omega, by omega, hx3, tx3, b1, b2, b3⟩ ⟨pt, upd_same, t8 _ _ (s7 _ _ upd_same)⟩
end
end Kn
end
section
set_option Elab.async false
set_option linter.all false
set_option maxRecDepth 100000
set_option maxHeartbeats 1000000
namespace Kn
open PySem L2
def litL (f : Expr → Option PyData) : List Expr → Option (List PyData)
  | [] => some []
  | e :: es => (f e).bind fun d => (litL f es).map fun ds => d :: ds
def lit : Nat → Expr → Option PyData
  | 0, _ => none
  | n + 1, e => match e with
    | .Constant (.int i) _ _ => some (.int i)
    | .Constant (.bool b) _ _ => some (.bool b)
    | .Constant .none _ _ => some .none
    | .Constant (.str x) _ _ => some (.str x)
    | .Tuple es _ _ => if es.length ≤ 900 then (litL (lit n) es).map .tuple else none
    | .List es _ => if es.length ≤ 900 then (litL (lit n) es).map .list else none
    | _ => none
theorem litL_len {f : Expr → Option PyData} : ∀ {es : List Expr} {ds : List PyData}, litL f es = some ds → ds.length = es.length
  | [], ds, h => by cases (show some [] = some ds from h); rfl
  | e :: es, ds, h => by
    unfold litL at h
    cases h1 : f e with
    | none => rw [h1] at h; cases h
    | some d =>
      cases h2 : litL f es with
      | none => rw [h1, h2] at h; cases h
      | some ds' =>
        rw [h1, h2] at h
        cases h
        rw [List.length_cons, List.length_cons, litL_len h2]
def notStar : Expr → Bool
  | .Starred .. => false
  | _ => true
theorem star_cons {e : Expr} {es : List Expr} (h : notStar e = true) (env) : starEach (e :: es) env = (false, eval e env) :: starEach es env := by
  cases e <;> first | rfl | (cases h)
section
variable {X : Cx} {e : Expr} {es : List Expr} {te : TE} {t : TA} {pos : Pos}
theorem pa_c (ha : PE X e te) (hr : PA X es t) (hs : notStar e = true := by rfl) : PA X (e :: es) (tCons te t) := pa_cons ha hr (star_cons hs _)
end
def tThg (d : PyData) : TE := fun σ H Q => ∀ v H', Same H H' → Thg H' d v → Q v H'
def tThgs (ds : List PyData) : TA := fun σ H Q => ∀ vs H', Same H H' → Thgs H' ds vs → Q vs H'
theorem lit_notStar {n : Nat} {e : Expr} {d : PyData} (h : lit n e = some d) : notStar e = true := by
  cases n with
  | zero => cases h
  | succ n => cases e <;> first | rfl | (cases h)
theorem PE.mono {X : Cx} {e : Expr} {t t' : TE} (h : PE X e t) (q : ∀ σ H Q, t' σ H Q → t σ H Q) : PE X e t' := fun pins s σ H Q I k => h pins s σ H Q I (q σ H Q k)
theorem PA.mono {X : Cx} {es : List Expr} {t t' : TA} (h : PA X es t) (q : ∀ σ H Q, t' σ H Q → t σ H Q) : PA X es t' := fun pos pins s σ H Q I k => h pos pins s σ H Q I (q σ H Q k)
theorem pa_litL {X : Cx} {f : Expr → Option PyData} (hf : ∀ e d, f e = some d → notStar e = true ∧ PE X e (tThg d)) : ∀ {es : List Expr} {ds : List PyData}, litL f es = some ds → PA X es (tThgs ds)
  | [], ds, h => by
    cases (show some [] = some ds from h)
    exact PA.mono pa_nil fun σ H Q q => q [] H (Same.refl H) rfl
  | e :: es, ds, h => by
    unfold litL at h
    cases h1 : f e with
    | none => rw [h1] at h; cases h
    | some d =>
      cases h2 : litL f es with
      | none => rw [h1, h2] at h; cases h
      | some ds' =>
        rw [h1, h2] at h
        cases h
        obtain ⟨ns, he⟩ := hf e d h1
        refine PA.mono (pa_c he (pa_litL hf h2) ns) fun σ H Q q => ?_
        intro v H1 s1 hv vs H2 s2 hvs
        exact q (v :: vs) H2 (s1.trans s2) ⟨_, _, rfl, Thg.same s2 _ _ hv, hvs⟩
theorem pe_lit {X : Cx} : ∀ (n : Nat) (e : Expr) (d : PyData), lit n e = some d → PE X e (tThg d)
  | 0, e, d, h => by cases h
  | n + 1, e, d, h => by
    unfold lit at h
    split at h
    · cases h; exact PE.mono pe_int fun σ H Q q => q _ H (Same.refl H) rfl
    · cases h; exact PE.mono pe_bl fun σ H Q q => q _ H (Same.refl H) rfl
    · cases h; exact PE.mono pe_non fun σ H Q q => q _ H (Same.refl H) rfl
    · cases h; exact PE.mono pe_str fun σ H Q q => q _ H (Same.refl H) rfl
    · rename_i es _ _
      split at h
      · rename_i hl
        cases h2 : litL (lit n) es with
        | none => rw [h2] at h; cases h
        | some ds =>
          rw [h2] at h
          cases h
          refine PE.mono (pe_tup (pa_litL (fun e d q => ⟨lit_notStar q, pe_lit n e d q⟩) h2)) fun σ H Q q => ?_
          intro vs H1 s1 hvs
          have := litL_len h2
          have := hvs.length
          refine ⟨by rw [sizeLine_eq]; omega, fun p hp => q _ _ (s1.trans (Same.upd1 hp)) ⟨p, vs, rfl, upd_same, Thgs.same (Same.upd1 hp) _ _ hvs⟩⟩
      · cases h
    · rename_i es _
      split at h
      · rename_i hl
        cases h2 : litL (lit n) es with
        | none => rw [h2] at h; cases h
        | some ds =>
          rw [h2] at h
          cases h
          refine PE.mono (pe_lst (pa_litL (fun e d q => ⟨lit_notStar q, pe_lit n e d q⟩) h2)) fun σ H Q q => ?_
          intro vs H1 s1 hvs
          have := litL_len h2
          have := hvs.length
          refine ⟨by rw [sizeLine_eq]; omega, fun p hp => q _ _ (s1.trans (Same.upd1 hp)) ⟨p, vs, rfl, upd_same, Thgs.same (Same.upd1 hp) _ _ hvs⟩⟩
      · cases h
    · cases h
end Kn
end
section
set_option Elab.async false
set_option linter.all false
set_option maxRecDepth 100000
set_option maxHeartbeats 4000000
namespace Kn
open PySem L2
def OKd (n : Nat) (d : PyData) : Prop := sml d = true ∧ d.canLay0 = true ∧ d.depth ≤ n
theorem OKd.sh {n : Nat} {d : PyData} (h : OKd n d) (hn : n ≤ 64) : SeqAt.shaped d = true := by
  unfold SeqAt.shaped
  rw [h.2.1, decide_eq_true (show d.depth ≤ 64 by have := h.2.2; omega)]; rfl
theorem OKd.mono {n m : Nat} {d : PyData} (h : OKd n d) (hm : n ≤ m) : OKd m d := ⟨h.1, h.2.1, Nat.le_trans h.2.2 hm⟩
theorem ok_all {ds : List PyData} {n : Nat} (h : ∀ d ∈ ds, OKd n d) : smls ds = true ∧ PyData.canLayAll0 ds = true ∧ PyData.depthAll ds ≤ n := by
  induction ds with
  | nil => exact ⟨rfl, rfl, Nat.zero_le _⟩
  | cons d ds ih =>
    obtain ⟨a1, a2, a3⟩ := h d (List.mem_cons_self ..)
    obtain ⟨b1, b2, b3⟩ := ih fun e he => h e (List.mem_cons_of_mem _ he)
    refine ⟨by simp only [smls, a1, b1, Bool.and_self], by simp only [PyData.canLayAll0, a2, b2, Bool.and_self], ?_⟩
    simp only [PyData.depthAll]; omega
theorem okT {ds : List PyData} {n : Nat} (h : ∀ d ∈ ds, OKd n d) (hl : ds.length ≤ 900) : OKd (n + 1) (.tuple ds) := by
  obtain ⟨a, b, c⟩ := ok_all h
  refine ⟨by simp only [sml, a, Bool.and_true]; exact decide_eq_true hl, by simp only [PyData.canLay0]; exact b, ?_⟩
  simp only [PyData.depth]; omega
theorem okL {ds : List PyData} {n : Nat} (h : ∀ d ∈ ds, OKd n d) (hl : ds.length ≤ 900) : OKd (n + 1) (.list ds) := by
  obtain ⟨a, b, c⟩ := ok_all h
  refine ⟨by simp only [sml, a, Bool.and_true]; exact decide_eq_true hl, by simp only [PyData.canLay0]; exact b, ?_⟩
  simp only [PyData.depth]; omega
theorem ok_str {x : S} (h : ∀ c ∈ x, c ≤ 122) (hl : x.length ≤ 900) : OKd 5 (.str (tx x)) := by
  refine ⟨?_, by simp only [PyData.canLay0]; exact strOk_of h, by simp only [PyData.depth]; decide⟩
  simp only [sml, tx_len, tx_cps, Bool.and_eq_true, decide_eq_true_eq, List.all_eq_true]
  exact ⟨hl, fun c hc => by have := h c hc; omega⟩
theorem ok_nm {x : S} (h : isNm x) : OKd 5 (.str (tx x)) := ok_str (fun c hc => (h.2.2 c hc).2) (by have := h.2.1; omega)
theorem edge_okd {x : S} (h : x = [] ∨ (isNm x ∧ x.length ≤ 3)) : OKd 5 (.str (tx x)) := by
  rcases h with rfl | h
  · exact ok_str (by simp) (by simp)
  · exact ok_nm h.1
def okAll (n : Nat) (ds : List PyData) : Bool := ds.all fun d => sml d && (d.canLay0 && decide (d.depth ≤ n))
theorem okAll_mem {n : Nat} {ds : List PyData} (h : okAll n ds = true) : ∀ d ∈ ds, OKd n d := fun d hd => by
  have := List.all_eq_true.mp h d hd
  simp only [Bool.and_eq_true, decide_eq_true_eq] at this
  exact this
theorem Thgs.take {H : Hp} : ∀ {ds : List PyData} {xs : List V} (n : Nat), Thgs H ds xs → Thgs H (ds.take n) (xs.take n)
  | [], xs, n, h => by rw [show xs = [] from h, List.take_nil, List.take_nil]; rfl
  | d :: ds, xs, 0, h => rfl
  | d :: ds, xs, n + 1, h => by
    obtain ⟨y, ys, rfl, h2, h3⟩ := h
    exact ⟨y, _, rfl, h2, Thgs.take n h3⟩
theorem Thgs.drop {H : Hp} : ∀ {ds : List PyData} {xs : List V} (n : Nat), Thgs H ds xs → Thgs H (ds.drop n) (xs.drop n)
  | [], xs, n, h => by rw [show xs = [] from h, List.drop_nil, List.drop_nil]; rfl
  | d :: ds, xs, 0, h => h
  | d :: ds, xs, n + 1, h => by
    obtain ⟨y, ys, rfl, h2, h3⟩ := h
    exact Thgs.drop n h3
theorem cutV_to (xs : List V) (n : Nat) : cutV xs none (some (n : Int)) = xs.take n := by
  unfold cutV
  rw [HT.sIx_nat]
  show (xs.drop 0).take (min n xs.length - 0) = _
  rw [List.drop_zero, Nat.sub_zero, ← List.take_eq_take_min]
theorem cutV_from (xs : List V) (n : Nat) : cutV xs (some (n : Int)) none = xs.drop n := by
  unfold cutV
  rw [HT.sIx_nat]
  show (xs.drop (min n xs.length)).take (xs.length - min n xs.length) = _
  by_cases h : n ≤ xs.length
  · rw [Nat.min_eq_left h, List.take_of_length_le (by rw [List.length_drop]; omega)]
  · rw [Nat.min_eq_right (by omega), List.drop_of_length_le (Nat.le_refl _), List.drop_of_length_le (by omega)]
    simp
def wishP (lo hi : Int) (hd tl : S) (ba : List S) (to : Bool) : List PyData := [.int lo, .int hi, .str (tx hd), .str (tx tl), .tuple (ba.map fun x => PyData.str (tx x)), .bool to]
theorem wishP_ok {lo hi : Int} {hd tl : S} {ba : List S} {to : Bool} (g : GW lo hi hd tl ba) : ∀ d ∈ wishP lo hi hd tl ba to, OKd 6 d := fun d h => by
  unfold wishP at h
  simp only [List.mem_cons, List.not_mem_nil, or_false] at h
  rcases h with rfl | rfl | rfl | rfl | rfl | rfl
  · exact ⟨rfl, rfl, by simp only [PyData.depth]; decide⟩
  · exact ⟨rfl, rfl, by simp only [PyData.depth]; decide⟩
  · exact (edge_okd g.ghd).mono (by decide)
  · exact (edge_okd g.gtl).mono (by decide)
  · refine okT (n := 5) (fun d hd => ?_) (by rw [List.length_map]; have := g.len; omega)
    obtain ⟨x, hx, rfl⟩ := List.mem_map.mp hd
    exact ok_nm (g.nm x hx)
  · exact ⟨rfl, rfl, by simp only [PyData.depth]; decide⟩
theorem thg_wishP {H : Hp} {a : Addr} {lo hi : Int} {hd tl : S} {ba : List S} {to : Bool} (h : WishAt H a lo hi hd tl ba to) : ∃ xs, H a = some (.tup xs) ∧ Thgs H (wishP lo hi hd tl ba to) xs ∧ xs.length = 6 := by
  obtain ⟨b, h1, h2⟩ := h
  refine ⟨_, h1, ⟨_, _, rfl, rfl, _, _, rfl, rfl, _, _, rfl, rfl, _, _, rfl, rfl, _, _, rfl, ⟨b, _, rfl, h2, Thgs.strs ba⟩, _, _, rfl, rfl, rfl⟩, rfl⟩
theorem wish_is {lo hi : Int} {hd tl : S} {ba : List S} {to : Bool} (g : GW lo hi hd tl ba) : isWishD (.tuple (wishP lo hi hd tl ba to)) = true := by
  have e0 : isWholeD 1 8 (.int lo) = true := by
    have := g.glo; have := g.gle; have := g.ghi
    simp only [isWholeD, Bool.and_eq_true, decide_eq_true_eq]; omega
  have e1 : isWholeD lo 8 (.int hi) = true := by
    have := g.gle; have := g.ghi
    simp only [isWholeD, Bool.and_eq_true, decide_eq_true_eq]; omega
  have ed : ∀ x : S, (x = [] ∨ (isNm x ∧ x.length ≤ 3)) → isEdgeD (.str (tx x)) = true := fun x h => by
    rcases h with rfl | ⟨h, h3⟩
    · rfl
    · simp only [isEdgeD, isNameD_of h, tx_len, decide_eq_true h3, Bool.and_self, Bool.or_true]
  have e4 : isBarredD (.tuple (ba.map fun x => PyData.str (tx x))) = true := by
    have e3 : (ba.map fun x => PyData.str (tx x)).map txtD = ba := by
      rw [List.map_map]
      conv => rhs; rw [← List.map_id ba]
      refine List.map_congr_left fun x _ => ?_
      show (tx x).cps.toList = x
      rw [tx_cps]
    have ea : (ba.map fun x => PyData.str (tx x)).all isNameD = true := by
      rw [List.all_map, List.all_eq_true]
      exact fun x hx => isNameD_of (g.nm x hx)
    simp only [isBarredD, e3, ea, g.ris, List.length_map, decide_eq_true g.len, Bool.and_self]
  simp only [isWishD, wishP, intD, e0, e1, ed _ g.ghd, ed _ g.gtl, e4, isBoolD, Bool.and_self]
end Kn
end
section
set_option Elab.async false
set_option linter.all false
set_option maxRecDepth 100000
set_option maxHeartbeats 4000000
namespace Kn
open PySem L2
def someA : List PyData := [.none, .bool true, .bool false, .int 0, .int 1, .int 8, .int 9, .str "", .str "abc", .str "abcd", .str "A", .tuple [], .tuple [.str "a"], .tuple [.str "b", .str "a"], .tuple [.str "a", .str "a"], .tuple [.str ""], .list [.str "a"], .int 3]
def someB : List PyData := [.tuple [.str "a", .str "b", .str "c", .str "d", .str "e", .str "f"], .tuple [.str "a", .str "b", .str "c", .str "d", .str "e", .str "f", .str "g"], .str "-", .tuple [.int 1]]
def manyD : List PyData := [.str "a", .str "b", .str "c", .str "d", .str "e", .str "f", .str "g"]
def thC : List PyData := [.tuple [.int 1, .int 9, .str "", .str "", .tuple [], .bool true], .tuple [.int 3, .int 2, .str "", .str "", .tuple [], .bool true], .tuple [.int 1, .int 2, .str "abcd", .str "", .tuple [], .bool true]]
def thD : List PyData := [.tuple [.int 1, .int 2, .str "", .str "abcd", .tuple [], .bool true], .tuple [.int 1, .int 2, .str "", .str "", .tuple [.str "b", .str "a"], .bool true], .tuple [.int 1, .int 2, .str "", .str "", .tuple [.str "a", .str "a"], .bool true]]
def thE : List PyData := [.tuple [.int 1, .int 2, .str "", .str "", .tuple [], .int 1], .tuple [.int 1, .int 2, .str "", .str "", .tuple [], .none], .tuple [.int 8, .int 8, .str "abc", .str "abc", .tuple [], .bool false]]
def w88 : PyData := .tuple [.int 8, .int 8, .str "abc", .str "abc", .tuple [], .bool true]
def w21 : PyData := .tuple [.int 2, .int 1, .str "", .str "", .tuple [], .bool true]
def w02 : PyData := .tuple [.int 0, .int 2, .str "", .str "", .tuple [], .bool true]
def badD : List PyData := [.str "", .str "A", .none, .int 1]
def ref3 (j : Int) : PyData := .tuple [.str "refused", .int j]
def thA (wp : List PyData) (od : PyData) (n : Nat) : List PyData := [.tuple wp, .tuple (wp.take n ++ [od] ++ wp.drop (n + 1)), .tuple (wp.take n ++ [od] ++ wp.drop n), .list wp, .tuple (wp.drop 1)]
def thB : List PyData := [.tuple [.int 1, .int 2, .str "", .str "", .tuple manyD, .bool true], .tuple [.int 1, .int 2, .str "", .str "", .tuple (manyD.drop 1), .bool true], w02]
theorem row_set {X : Cx} {i : Nat} {x : Str} {e : Expr} {te : TE} {pos' p3 : Pos} {rest : List Stmt} {u : TS} (hN : X.N.Nodup) (hi : X.N[i]? = some x) (hx : Loc X.env.scope x) (hf : X.fn x = true ∨ X.env.scope.names.lookup x = some .local) (hs : swapsWith e (some (.Name x pos')) p3.line X.env = pure false) (he : PE X e te) (hr : PSs X rest u) :
    PSs X (.Assign [.Name x pos'] e p3 :: rest) (tSeq (tAsg te (gName i)) u) := pss_cons (ps_set hN hi hx he hs hf) hr
theorem dstr_inj : ∀ {l m : List S}, (l.map fun x => PyData.str (tx x)) = (m.map fun x => PyData.str (tx x)) → l = m
  | [], [], _ => rfl
  | [], _ :: _, h => nomatch h
  | _ :: _, [], h => nomatch h
  | a :: l, b :: m, h => by
    injection h with h1 h2
    rw [tx_inj (PyData.str.inj h1), dstr_inj h2]
theorem wishD_inj {lo hi lo' hi' : Int} {hd tl hd' tl' : S} {ba ba' : List S} {to to' : Bool} (h : wishD lo hi hd tl ba to = wishD lo' hi' hd' tl' ba' to') : lo = lo' ∧ hi = hi' ∧ hd = hd' ∧ tl = tl' ∧ ba = ba' ∧ to = to' := by
  have h := PyData.tuple.inj h
  injection h with h1 h
  injection h with h2 h
  injection h with h3 h
  injection h with h4 h
  injection h with h5 h
  injection h with h6 h
  exact ⟨PyData.int.inj h1, PyData.int.inj h2, tx_inj (PyData.str.inj h3), tx_inj (PyData.str.inj h4), dstr_inj (PyData.tuple.inj h5), PyData.bool.inj h6⟩
theorem tSeq_abs {t u : TS} {D : Ends} {σ : St} {H : Hp} (R : St → Hp → Prop) (h2 : ∀ σ' H', R σ' H' → u D σ' H') (h1 : ∀ N : St → Hp → Prop, (∀ σ' H', R σ' H' → N σ' H') → t { D with nx := N } σ H) : tSeq t u D σ H := h1 (u D) h2
section
variable {P : Program} {w : World} {K : PySem.W.Frag} {mg : Str → Option Value} {base : Heap}
structure LawC (P : Program) (w : World) (K : PySem.W.Frag) (mg : Str → Option Value) (base : Heap) : Prop where
  dr : Cal P w K mg base 2 "_law_drawn" ["_law_script", "_law_k", "_law_many"] (spDrawn K)
  nm : Cal P w K mg base 3 "_law_name" ["_law_script", "_law_at", "_law_most"] (spName K)
  bk : Cal P w K mg base 4 "_law_book" ["_law_script", "_law_at", "_law_many", "_law_most"] (spBook K)
  ws : Cal P w K mg base 3 "_law_wish" ["_law_script", "_law_at"] (spLW K)
  ft : Cal P w K mg base 1 "_law_fits" ["_law_book_here", "_law_wish_here", "_law_name_here"] spLFits
  td : Cal P w K mg base 6 "_law_told" ["_law_book_here", "_law_wish_here", "_law_name_here"] spTold
  lw : Cal P w K mg base 2 "_law_is_wish" ["_law_thing"] spWish
  iw : Cal P w K mg base 3 "is_wish" ["thing"] spWish
def spLaw (K : PySem.W.Frag) : Sp := fun vs H Q _ => ∃ (a : Addr) (ns : List Int), vs = [.ref a] ∧ SqL K H a (ns.map V.int) ∧ ns.length ≤ 63 ∧ ∀ H', Q (.bl true) H'
abbrev sLaw : Stmt := top 48
theorem scLaw : FnScope ["_law_script", "_law_book_here", "_law_wish_here", "_law_at", "_law_some", "_law_odd", "_law_things", "_law_many", "_law_thing", "_law_told_here", "_law_k", "_law_name_here", "_law_due", "_law_bad"] ["_law_script"] (defScope sLaw) := ⟨rfl, rfl, rfl, by decide +kernel, rfl, by decide +kernel, by decide +kernel⟩
theorem ok_law {f : Addr} {fd : FuncData} (F : Fun K "law" "law" sLaw f fd) (B : Blt mg) (hli : mg "list" = none) (C : LawC P w K mg base) : FnOk P w K mg base CX0 9 f fd ["_law_script"] (spLaw K) := by
  refine F.ok scLaw (fun vs H Q E h => ?_) (fun cdv A outer s H vs Q E hr h => ?_)
  · obtain ⟨a, ns, rfl, _⟩ := h; rfl
  · obtain ⟨a, ns, rfl, ha, hl, k⟩ := h
    have nd := scLaw.nd
    have hu := hr.units
    have r6 := hr.mono (j := 6) (by decide)
    have r4 := hr.mono (j := 4) (by decide)
    have r3 := hr.mono (j := 3) (by decide)
    have r2 := hr.mono (j := 2) (by decide)
    have r1 := hr.mono (j := 1) (by decide)
    refine ⟨_, pss_cons (ps_set (i := 1) nd rfl (Or.inl rfl) (pe_cal C.bk r4 rfl (pa_c (pv 0) (pa_c pe_int (pa_c pe_int (pa_c pe_int pa_nil))))))
      (pss_cons (ps_set (i := 2) nd rfl (Or.inl rfl) (pe_cal C.ws r3 rfl (pa_c (pv 0) (pa_c pe_int pa_nil))))
      (pss_cons (ps_set (i := 3) nd rfl (Or.inl rfl) (pe_cal C.dr r2 rfl (pa_c (pv 0) (pa_c pe_int (pa_c pe_int pa_nil)))))
      (@row_set _ 4 _ _ _ _ _ _ _ nd rfl (Or.inl rfl) (Or.inr rfl) rfl (@pe_lit _ 3 _ (.list someA) (by kernel_rfl))
      (@row_set _ 4 _ _ _ _ _ _ _ nd rfl (Or.inl rfl) (Or.inr rfl) rfl (@pe_op _ _ _ _ _ _ _ _ op_cat (pv 4) (@pe_lit _ 3 _ (.list someB) (by kernel_rfl)))
      (pss_cons (ps_set (i := 5) nd rfl (Or.inl rfl) (pe_ix ix_list (pv 4) (pe_cal C.dr r2 rfl (pa_c (pv 0) (pa_c pe_int (pa_c (pe_callB call_len_seq (by rfl) B.len PySem.boot_len (pa_c (pv 4) pa_nil)) pa_nil)))) (fun _ _ => rfl)))
      (pss_cons (ps_set (i := 6) nd rfl (Or.inl rfl) (pe_lst (pa_c (pv 2)
          (pa_c (pe_op op_catTT (pe_op op_catTT (pe_slice sl_tupA (pv 2) po_none (po_some (pv 3))) (pe_tup (pa_c (pv 5) pa_nil))) (pe_slice sl_tupA (pv 2) (po_some (pe_op op_add (pv 3) pe_int)) po_none))
          (pa_c (pe_op op_catTT (pe_op op_catTT (pe_slice sl_tupA (pv 2) po_none (po_some (pv 3))) (pe_tup (pa_c (pv 5) pa_nil))) (pe_slice sl_tupA (pv 2) (po_some (pv 3)) po_none))
          (pa_c (pe_callTy call_list_of (by rfl) hli PyProof.Rows.boot_list (pa_c (pv 2) pa_nil)) (pa_c (pe_slice sl_tupA (pv 2) (po_some pe_int) po_none) pa_nil)))))))
      (@row_set _ 7 _ _ _ _ _ _ _ nd rfl (Or.inl rfl) (Or.inr rfl) rfl (@pe_lit _ 3 _ (.tuple manyD) (by kernel_rfl))
      (pss_cons (ps_set (i := 6) nd rfl (Or.inl rfl) (pe_op op_cat (pv 6) (pe_lst (pa_c (pe_tup (pa_c pe_int (pa_c pe_int (pa_c pe_str (pa_c pe_str (pa_c (pv 7) (pa_c pe_bl pa_nil)))))))
          (pa_c (pe_tup (pa_c pe_int (pa_c pe_int (pa_c pe_str (pa_c pe_str (pa_c (pe_slice sl_tupA (pv 7) (po_some pe_int) po_none) (pa_c pe_bl pa_nil))))))) (pa_c (pe_lit 3 _ w02 (by kernel_rfl)) pa_nil))))))
      (@row_set _ 6 _ _ _ _ _ _ _ nd rfl (Or.inl rfl) (Or.inr rfl) rfl (@pe_op _ _ _ _ _ _ _ _ op_cat (pv 6) (@pe_lit _ 4 _ (.list thC) (by kernel_rfl)))
      (@row_set _ 6 _ _ _ _ _ _ _ nd rfl (Or.inl rfl) (Or.inr rfl) rfl (@pe_op _ _ _ _ _ _ _ _ op_cat (pv 6) (@pe_lit _ 4 _ (.list thD) (by kernel_rfl)))
      (@row_set _ 6 _ _ _ _ _ _ _ nd rfl (Or.inl rfl) (Or.inr rfl) rfl (@pe_op _ _ _ _ _ _ _ _ op_cat (pv 6) (@pe_lit _ 4 _ (.list thE) (by kernel_rfl)))
      (pss_cons (ps_for PassesOwn.never rfl (pi_list (pe_op op_cat (pv 6) (pe_lst (pa_c pe_non (pa_c (pe_tup pa_nil) (pa_c (pv 5) (pa_c (pe_lit 3 _ w88 (by kernel_rfl)) (pa_c (pe_lit 3 _ w21 (by kernel_rfl)) pa_nil)))))))) (pg_name (i := 8) nd rfl (Or.inl rfl))
        (pss_cons (ps_set (i := 9) nd rfl (Or.inl rfl) (pe_cal C.iw r3 rfl (pa_c (pv 8) pa_nil)))
        (pss_cons (ps_if (PW.pt (pw_or (pt_not (pt_val (pe_callB call_isinst (by rfl) B.isinstance PyProof.Rows.boot_isinstance (pa_c (pv 9) (pa_c (pe_bltn (v := .ty "bool") (by rfl) B.bool PyProof.Rows.boot_bool rfl) pa_nil)))))
            (pw_or1 (pt_cmpR op_ne (pv 9) (pe_cal C.lw r2 rfl (pa_c (pv 8) pa_nil)) (nomark _))))) (pss_one (ps_ret pe_bl)) pss_nil)
        (pss_one (ps_for PassesOwn.never rfl (pi_range1 rfl B.range (pa_c pe_int pa_nil)) (pg_name (i := 10) nd rfl (Or.inl rfl))
          (pss_cons (ps_set (i := 11) nd rfl (Or.inl rfl) (pe_cal C.nm r3 rfl (pa_c (pv 0) (pa_c (pe_op op_add pe_int (pe_op op_mul pe_int (pv 10))) (pa_c pe_int pa_nil)))))
          (pss_cons (ps_if (pt_cmpR op_eq (pv 10) pe_int (nomark _)) (pss_one (ps_set (i := 11) nd rfl (Or.inl rfl) (pe_ix ix_tup (pv 1) (pe_cal C.dr r2 rfl (pa_c (pv 0) (pa_c pe_int (pa_c (pe_callB call_len_seq (by rfl) B.len PySem.boot_len (pa_c (pv 1) pa_nil)) pa_nil)))) (fun _ _ => rfl)))) pss_nil)
          (pss_cons (ps_set (i := 12) nd rfl (Or.inl rfl) (pe_ifExp (pt_val (pv 9)) (pe_cal C.ft r1 rfl (pa_c (pv 1) (pa_c (pv 8) (pa_c (pv 11) pa_nil)))) (pe_tup (pa_c pe_str (pa_c pe_int pa_nil)))))
          (pss_one (ps_if (pt_cmpR (op_neD hu) (pe_cal C.td r6 rfl (pa_c (pv 1) (pa_c (pv 8) (pa_c (pv 11) pa_nil)))) (pv 12) (nomark _)) (pss_one (ps_ret pe_bl)) pss_nil))))))))))
      (pss_cons (ps_set (i := 13) nd rfl (Or.inl rfl) (pe_ix ix_list (pe_lst (pa_c pe_str (pa_c pe_str (pa_c pe_non (pa_c pe_int pa_nil))))) (pe_cal C.dr r2 rfl (pa_c (pv 0) (pa_c pe_int (pa_c pe_int pa_nil)))) (fun _ _ => rfl)))
      (pss_cons (ps_if (PW.pt (pw_or (pt_cmpR (op_neD hu) (pe_cal C.td r6 rfl (pa_c (pv 1) (pa_c (pv 2) (pa_c (pv 13) pa_nil)))) (pe_lit 2 _ (ref3 2) (by kernel_rfl)) (nomark _))
          (pw_or1 (pt_cmpR (op_neD hu) (pe_cal C.td r6 rfl (pa_c (pv 1) (pa_c (pe_slice sl_tupA (pv 2) po_none (po_some pe_int)) (pa_c (pv 13) pa_nil)))) (pe_lit 2 _ (ref3 3) (by kernel_rfl)) (nomark _))))) (pss_one (ps_ret pe_bl)) pss_nil)
      (pss_one (ps_ret (pe_cmpR (op_eqD hu) (pe_cal C.td r6 rfl (pa_c (pe_callTy call_list_of (by rfl) hli PyProof.Rows.boot_list (pa_c (pv 1) pa_nil)) (pa_c (pe_slice sl_tupA (pv 2) po_none (po_some pe_int)) (pa_c (pv 13) pa_nil)))) (pe_lit 2 _ (ref3 0) (by kernel_rfl)) (nomark _)))))))))))))))))), ?_⟩
    refine ⟨_, rfl, a, ns, 0, 4, 4, rfl, ha, hl, by decide, by decide, by decide, by decide, fun b bk H1 s1 hb1 bl1 bl2 bn => ?_⟩
    refine ⟨_, rfl, a, ns, 50, rfl, s1.seq ha, hl, fun pw lo hi hd tl ba to H2 s2' gw hw => ?_⟩
    have s2 := s1.trans s2'
    refine ⟨_, rfl, a, ns, 70, 6, rfl, s2.seq ha, hl, by decide, by decide, fun at' H3 hat s3' => ?_⟩
    have s3 := s2.trans s3'
    intro so H4 s4' hso
    have s4 := s3.trans s4'
    obtain ⟨p4, xs4, rfl, h4, th4⟩ := hso
    refine ⟨_, rfl, ?_⟩
    intro so2 H5 s5' hso2
    have s5 := s4.trans s5'
    obtain ⟨p5, xs5, rfl, h5, th5⟩ := hso2
    have l4 := th4.length
    have l5 := th5.length
    have hsomeA : someA.length = 18 := rfl
    have hsomeB : someB.length = 4 := rfl
    refine ⟨p4, p5, xs4, xs5, rfl, rfl, s5' _ _ h4, h5, by rw [sizeLine_eq]; omega, fun p6 hp6 => ?_⟩
    have t6 := Same.upd1 (o := .lst (xs4 ++ xs5)) hp6
    have s6 := s5.trans t6
    have th6 : Thgs (upd H5 p6 (.lst (xs4 ++ xs5))) (someA ++ someB) (xs4 ++ xs5) := Thgs.append (Thgs.same (s5'.trans t6) _ _ th4) (Thgs.same t6 _ _ th5)
    have h6 : (upd H5 p6 (.lst (xs4 ++ xs5))) p6 = some (.lst (xs4 ++ xs5)) := upd_same
    have s26 := s3'.trans (s4'.trans (s5'.trans t6))
    generalize upd H5 p6 (.lst (xs4 ++ xs5)) = H6 at s6 th6 h6 s26 ⊢
    have l6 : (xs4 ++ xs5).length = 22 := by rw [List.length_append]; omega
    generalize xs4 ++ xs5 = xs6 at th6 h6 l6 ⊢
    refine ⟨_, rfl, _, rfl, _, rfl, p6, xs6, rfl, .inl (.of h6), a, ns, 71, 22, by rw [l6]; rfl, s6.seq ha, hl, by decide, by decide, fun d6 H7 hd6 s7' => ?_⟩
    have hd6' : d6 < xs6.length := by omega
    obtain ⟨yo, hyo⟩ : ∃ y, xs6[d6]? = some y := ⟨_, List.getElem?_eq_getElem hd6'⟩
    obtain ⟨od, hod, hoy⟩ := th6.get hyo
    refine ⟨p6, xs6, (d6 : Int), yo, rfl, rfl, .of (s7' _ _ h6), atI_nat hyo, ?_⟩
    have s7 := s6.trans s7'
    have ooy := Thg.same s7' _ _ hoy
    have odok : OKd 6 od := okAll_mem (ds := someA ++ someB) (by decide +kernel) od (List.mem_of_getElem? hod)
    have s27 : Same H2 H7 := s26.trans s7'
    have hw7 := hw.same s27
    obtain ⟨xw, hxw, thw, lw⟩ := thg_wishP hw7
    refine ⟨_, rfl, _, rfl, _, rfl, _, rfl, pw, xw, rfl, hxw, fun q1 G1 u1 hq1 => ?_⟩
    rw [cutV_to] at hq1
    refine ⟨_, rfl, by show 1 ≤ sizeLine; decide, fun q2 hq2 => ?_⟩
    have u2 := Same.upd1 (o := .tup [yo]) hq2
    refine ⟨q1, q2, _, _, rfl, rfl, u2 _ _ hq1, upd_same, by rw [List.length_take, sizeLine_eq]; show _ + 1 ≤ _; omega, fun q3 G3 u3 hq3 => ?_⟩
    have v3 := u1.trans (u2.trans u3)
    refine ⟨_, rfl, _, rfl, _, _, rfl, rfl, _, rfl, pw, xw, rfl, v3 _ _ hxw, fun q4 G4 u4 hq4 => ?_⟩
    have ec : ((at' : Int) + 1) = ((at' + 1 : Nat) : Int) := by omega
    have hq4' : G4 q4 = some (.tup (xw.drop (at' + 1))) := by rw [hq4]; show some (HO.tup (cutV xw (some ((at' : Int) + 1)) none)) = _; rw [ec, cutV_from]
    refine ⟨q3, q4, _, _, rfl, rfl, u4 _ _ hq3, hq4', by rw [List.length_append, List.length_take, List.length_drop, sizeLine_eq]; show _ + 1 + _ ≤ _; omega, fun q5 G5 u5 hq5 => ?_⟩
    have v5 := v3.trans (u4.trans u5)
    refine ⟨_, rfl, _, rfl, _, rfl, pw, xw, rfl, v5 _ _ hxw, fun q6 G6 u6 hq6 => ?_⟩
    rw [cutV_to] at hq6
    refine ⟨_, rfl, by show 1 ≤ sizeLine; decide, fun q7 hq7 => ?_⟩
    have u7 := Same.upd1 (o := .tup [yo]) hq7
    refine ⟨q6, q7, _, _, rfl, rfl, u7 _ _ hq6, upd_same, by rw [List.length_take, sizeLine_eq]; show _ + 1 ≤ _; omega, fun q8 G8 u8 hq8 => ?_⟩
    have v8 := v5.trans (u6.trans (u7.trans u8))
    refine ⟨_, rfl, _, rfl, _, rfl, pw, xw, rfl, v8 _ _ hxw, fun q9 G9 u9 hq9 => ?_⟩
    rw [cutV_from] at hq9
    refine ⟨q8, q9, _, _, rfl, rfl, u9 _ _ hq8, hq9, by rw [List.length_append, List.length_take, List.length_drop, sizeLine_eq]; show _ + 1 + _ ≤ _; omega, fun q10 G10 u10 hq10 => ?_⟩
    have v10 := v8.trans (u9.trans u10)
    refine ⟨_, rfl, pw, xw, rfl, .inr (.of (v10 _ _ hxw)), fun q11 hq11 => ?_⟩
    have u11 := Same.upd1 (o := .lst xw) hq11
    have v11 := v10.trans u11
    refine ⟨_, rfl, _, rfl, pw, xw, rfl, v11 _ _ hxw, fun q12 G12 u12 hq12 => ?_⟩
    have hq12' : G12 q12 = some (.tup (xw.drop 1)) := by rw [hq12]; show some (HO.tup (cutV xw (some ((1 : Nat) : Int)) none)) = _; rw [cutV_from]
    refine ⟨by show 5 ≤ sizeLine; decide, fun q13 hq13 => ?_⟩
    have u13 := Same.upd1 (o := .lst [V.ref pw, V.ref q5, V.ref q10, V.ref q11, V.ref q12]) hq13
    have v13 := v11.trans (u12.trans u13)
    have th13 : Thgs (upd G12 q13 (.lst [V.ref pw, V.ref q5, V.ref q10, V.ref q11, V.ref q12])) (thA (wishP lo hi hd tl ba to) od at') [V.ref pw, V.ref q5, V.ref q10, V.ref q11, V.ref q12] := by
      have tw := Thgs.same v13 _ _ thw
      have to' := Thg.same v13 _ _ ooy
      have e5 : Same G5 (upd G12 q13 (.lst [V.ref pw, V.ref q5, V.ref q10, V.ref q11, V.ref q12])) := (u6.trans (u7.trans u8)).trans ((u9.trans u10).trans (u11.trans (u12.trans u13)))
      have e10 : Same G10 (upd G12 q13 (.lst [V.ref pw, V.ref q5, V.ref q10, V.ref q11, V.ref q12])) := u11.trans (u12.trans u13)
      refine ⟨_, _, rfl, ⟨pw, _, rfl, v13 _ _ hxw, tw⟩, _, _, rfl, ⟨q5, _, rfl, e5 _ _ hq5, Thgs.append (Thgs.append (Thgs.take at' tw) ⟨_, _, rfl, to', rfl⟩) (Thgs.drop (at' + 1) tw)⟩, _, _, rfl, ⟨q10, _, rfl, e10 _ _ hq10, Thgs.append (Thgs.append (Thgs.take at' tw) ⟨_, _, rfl, to', rfl⟩) (Thgs.drop at' tw)⟩,
        _, _, rfl, ⟨q11, _, rfl, (u12.trans u13) _ _ upd_same, tw⟩, _, _, rfl, ⟨q12, _, rfl, u13 _ _ hq12', Thgs.drop 1 tw⟩, rfl⟩
    have h13 : (upd G12 q13 (.lst [V.ref pw, V.ref q5, V.ref q10, V.ref q11, V.ref q12])) q13 = some (.lst [V.ref pw, V.ref q5, V.ref q10, V.ref q11, V.ref q12]) := upd_same
    have s13 := s7.trans v13
    have oo13 := Thg.same v13 _ _ ooy
    have w13 := hw7.same v13
    generalize upd G12 q13 (.lst [V.ref pw, V.ref q5, V.ref q10, V.ref q11, V.ref q12]) = H8 at th13 h13 s13 oo13 w13 v13 ⊢
    have l13 : ([V.ref pw, V.ref q5, V.ref q10, V.ref q11, V.ref q12] : List V).length = 5 := rfl
    generalize ([V.ref pw, V.ref q5, V.ref q10, V.ref q11, V.ref q12] : List V) = xa at th13 h13 l13 ⊢
    clear u1 hq1 u2 hq2 u3 hq3 v3 u4 hq4 hq4' u5 hq5 v5 u6 hq6 u7 hq7 u8 hq8 v8 u9 hq9 u10 hq10 v10 u11 hq11 v11 u12 hq12 hq12' u13 hq13
    intro vm H9 s9' hm
    obtain ⟨pm, xm, rfl, hpm, thm⟩ := hm
    refine ⟨_, rfl, _, rfl, by show 6 ≤ sizeLine; decide, fun r1 hr1 => ?_⟩
    have u1 := Same.upd1 (o := .tup [V.int 1, V.int 2, V.str "", V.str "", V.ref pm, V.bl true]) hr1
    refine ⟨_, rfl, _, rfl, pm, xm, rfl, u1 _ _ hpm, fun r2 G2 u2 hr2 => ?_⟩
    have hr2' : G2 r2 = some (.tup (xm.drop 1)) := by rw [hr2]; show some (HO.tup (cutV xm (some ((1 : Nat) : Int)) none)) = _; rw [cutV_from]
    refine ⟨by show 6 ≤ sizeLine; decide, fun r3 hr3 => ?_⟩
    have u3 := Same.upd1 (o := .tup [V.int 1, V.int 2, V.str "", V.str "", V.ref r2, V.bl true]) hr3
    intro vz G4 u4 hz
    refine ⟨by show 3 ≤ sizeLine; decide, fun r4 hr4 => ?_⟩
    have u5 := Same.upd1 (o := .lst [V.ref r1, V.ref r3, vz]) hr4
    have v5 := u1.trans (u2.trans (u3.trans (u4.trans u5)))
    refine ⟨q13, r4, xa, _, rfl, rfl, v5 _ _ (s9' _ _ h13), upd_same, by rw [l13, sizeLine_eq]; show 5 + 3 ≤ _; decide, fun r5 hr5 => ?_⟩
    have u6 := Same.upd1 (o := .lst (xa ++ [V.ref r1, V.ref r3, vz])) hr5
    have th9 : Thgs (upd (upd G4 r4 (.lst [V.ref r1, V.ref r3, vz])) r5 (.lst (xa ++ [V.ref r1, V.ref r3, vz]))) (thA (wishP lo hi hd tl ba to) od at' ++ thB) (xa ++ [V.ref r1, V.ref r3, vz]) := by
      refine Thgs.append (Thgs.same (s9'.trans (v5.trans u6)) _ _ th13) ?_
      have tm := Thgs.same (v5.trans u6) _ _ thm
      refine ⟨_, _, rfl, ⟨r1, _, rfl, (u2.trans (u3.trans (u4.trans (u5.trans u6)))) _ _ upd_same, _, _, rfl, rfl, _, _, rfl, rfl, _, _, rfl, rfl, _, _, rfl, rfl, _, _, rfl, ⟨pm, _, rfl, (v5.trans u6) _ _ hpm, tm⟩, _, _, rfl, rfl, rfl⟩,
        _, _, rfl, ⟨r3, _, rfl, (u4.trans (u5.trans u6)) _ _ upd_same, _, _, rfl, rfl, _, _, rfl, rfl, _, _, rfl, rfl, _, _, rfl, rfl, _, _, rfl, ⟨r2, _, rfl, (u3.trans (u4.trans (u5.trans u6))) _ _ hr2', Thgs.drop 1 tm⟩, _, _, rfl, rfl, rfl⟩, _, _, rfl, Thg.same (u5.trans u6) _ _ hz, rfl⟩
    have h9 : (upd (upd G4 r4 (.lst [V.ref r1, V.ref r3, vz])) r5 (.lst (xa ++ [V.ref r1, V.ref r3, vz]))) r5 = some (.lst (xa ++ [V.ref r1, V.ref r3, vz])) := upd_same
    have v9 := v13.trans (s9'.trans (v5.trans u6))
    have s9 := s7.trans v9
    have oo9 := Thg.same v9 _ _ ooy
    have w9 := hw7.same v9
    generalize upd (upd G4 r4 (.lst [V.ref r1, V.ref r3, vz])) r5 (.lst (xa ++ [V.ref r1, V.ref r3, vz])) = HA at th9 h9 v9 s9 oo9 w9 ⊢
    have l9 : (xa ++ [V.ref r1, V.ref r3, vz]).length = 8 := by rw [List.length_append, l13]; rfl
    generalize xa ++ [V.ref r1, V.ref r3, vz] = xb at th9 h9 l9 ⊢
    clear u1 hr1 u2 hr2 hr2' u3 hr3 u4 hz u5 hr4 v5 u6 hr5
    refine ⟨_, rfl, ?_⟩
    intro vc HB uc hc
    obtain ⟨pc, xc, rfl, hpc, thc⟩ := hc
    have lc : xc.length = 3 := thc.length.symm
    refine ⟨r5, pc, xb, xc, rfl, rfl, uc _ _ h9, hpc, by rw [l9, lc, sizeLine_eq]; decide, fun r6 hr6 => ?_⟩
    have t6c := Same.upd1 (o := .lst (xb ++ xc)) hr6
    refine ⟨_, rfl, ?_⟩
    intro vd HC ud hd'
    obtain ⟨pd, xd, rfl, hpd, thd⟩ := hd'
    have ld : xd.length = 3 := thd.length.symm
    refine ⟨r6, pd, _, xd, rfl, rfl, ud _ _ upd_same, hpd, by rw [List.length_append, l9, lc, ld, sizeLine_eq]; decide, fun r7 hr7 => ?_⟩
    have t7c := Same.upd1 (o := .lst (xb ++ xc ++ xd)) hr7
    refine ⟨_, rfl, ?_⟩
    intro ve HD ue he'
    obtain ⟨pe, xe, rfl, hpe, the⟩ := he'
    have le : xe.length = 3 := the.length.symm
    refine ⟨r7, pe, _, xe, rfl, rfl, ue _ _ upd_same, hpe, by rw [List.length_append, List.length_append, l9, lc, ld, le, sizeLine_eq]; decide, fun r8 hr8 => ?_⟩
    have t8c := Same.upd1 (o := .lst (xb ++ xc ++ xd ++ xe)) hr8
    have vD := uc.trans (t6c.trans (ud.trans (t7c.trans (ue.trans t8c))))
    have thF : Thgs (upd HD r8 (.lst (xb ++ xc ++ xd ++ xe))) (thA (wishP lo hi hd tl ba to) od at' ++ thB ++ thC ++ thD ++ thE) (xb ++ xc ++ xd ++ xe) :=
      Thgs.append (Thgs.append (Thgs.append (Thgs.same vD _ _ th9) (Thgs.same (t6c.trans (ud.trans (t7c.trans (ue.trans t8c)))) _ _ thc)) (Thgs.same (t7c.trans (ue.trans t8c)) _ _ thd)) (Thgs.same t8c _ _ the)
    have hF : (upd HD r8 (.lst (xb ++ xc ++ xd ++ xe))) r8 = some (.lst (xb ++ xc ++ xd ++ xe)) := upd_same
    have vF := v9.trans vD
    have lF : (xb ++ xc ++ xd ++ xe).length = 17 := by rw [List.length_append, List.length_append, List.length_append, l9, lc, ld, le]
    generalize upd HD r8 (.lst (xb ++ xc ++ xd ++ xe)) = HF at thF hF vF ⊢
    generalize xb ++ xc ++ xd ++ xe = xf at thF hF lF ⊢
    clear uc hpc thc lc hr6 t6c ud hpd thd ld hr7 t7c ue hpe the le hr8 t8c vD th9 h9 v9 s9 oo9 w9 th13 h13 v13 s13 oo13 w13
    refine ⟨_, rfl, by show 0 ≤ sizeLine; decide, fun e1 he1 => ?_⟩
    have u1 := Same.upd1 (o := .tup []) he1
    refine ⟨_, rfl, ?_⟩
    intro vy G2 u2 hy
    intro vz G3 u3 hz
    refine ⟨by show 5 ≤ sizeLine; decide, fun e2 he2 => ?_⟩
    have u4 := Same.upd1 (o := .lst [V.non, V.ref e1, yo, vy, vz]) he2
    refine ⟨r8, e2, xf, _, rfl, rfl, (u1.trans (u2.trans (u3.trans u4))) _ _ hF, upd_same, by rw [lF, sizeLine_eq]; show 17 + 5 ≤ _; decide, fun e3 he3 => ?_⟩
    have u5 := Same.upd1 (o := .lst (xf ++ [V.non, V.ref e1, yo, vy, vz])) he3
    have vG := u1.trans (u2.trans (u3.trans (u4.trans u5)))
    have ooF := Thg.same (vF.trans vG) _ _ ooy
    have thG : Thgs (upd (upd G3 e2 (.lst [V.non, V.ref e1, yo, vy, vz])) e3 (.lst (xf ++ [V.non, V.ref e1, yo, vy, vz]))) (thA (wishP lo hi hd tl ba to) od at' ++ thB ++ thC ++ thD ++ thE ++ [.none, .tuple [], od, w88, w21]) (xf ++ [V.non, V.ref e1, yo, vy, vz]) := by
      refine Thgs.append (Thgs.same vG _ _ thF) ⟨_, _, rfl, rfl, _, _, rfl, ⟨e1, [], rfl, (u2.trans (u3.trans (u4.trans u5))) _ _ upd_same, rfl⟩, _, _, rfl, ooF, _, _, rfl, Thg.same (u3.trans (u4.trans u5)) _ _ hy, _, _, rfl, Thg.same (u4.trans u5) _ _ hz, rfl⟩
    have hG : (upd (upd G3 e2 (.lst [V.non, V.ref e1, yo, vy, vz])) e3 (.lst (xf ++ [V.non, V.ref e1, yo, vy, vz]))) e3 = some (.lst (xf ++ [V.non, V.ref e1, yo, vy, vz])) := upd_same
    have lG : (xf ++ [V.non, V.ref e1, yo, vy, vz]).length = 22 := by rw [List.length_append, lF]; rfl
    have s7G := vF.trans vG
    generalize upd (upd G3 e2 (.lst [V.non, V.ref e1, yo, vy, vz])) e3 (.lst (xf ++ [V.non, V.ref e1, yo, vy, vz])) = HG at thG hG s7G ⊢
    generalize xf ++ [V.non, V.ref e1, yo, vy, vz] = xg at thG hG lG ⊢
    clear u1 he1 u2 hy u3 hz u4 he2 u5 he3 vG ooF thF hF vF lF
    refine ⟨e3, rfl, ⟨_, .of hG⟩, ?_⟩
    have hokW := wishP_ok (to := to) gw
    have okG : ∀ d ∈ thA (wishP lo hi hd tl ba to) od at' ++ thB ++ thC ++ thD ++ thE ++ [.none, .tuple [], od, w88, w21], OKd 10 d := by
      have oA : ∀ d ∈ thA (wishP lo hi hd tl ba to) od at', OKd 10 d := fun d h => by
        have lwp : (wishP lo hi hd tl ba to).length = 6 := rfl
        have mid : ∀ n m : Nat, ∀ d ∈ (wishP lo hi hd tl ba to).take n ++ [od] ++ (wishP lo hi hd tl ba to).drop m, OKd 6 d := fun n m d h => by
          rcases List.mem_append.mp h with h | h
          · rcases List.mem_append.mp h with h | h
            · exact hokW d (List.mem_of_mem_take h)
            · rw [List.mem_singleton.mp h]; exact odok
          · exact hokW d (List.mem_of_mem_drop h)
        have len : ∀ n m : Nat, ((wishP lo hi hd tl ba to).take n ++ [od] ++ (wishP lo hi hd tl ba to).drop m).length ≤ 900 := fun n m => by
          rw [List.length_append, List.length_append, List.length_take, List.length_drop, lwp]; show _ + 1 + _ ≤ _; omega
        unfold thA at h
        simp only [List.mem_cons, List.not_mem_nil, or_false] at h
        rcases h with rfl | rfl | rfl | rfl | rfl
        · exact (okT hokW (by rw [lwp]; decide)).mono (by decide)
        · exact (okT (mid _ _) (len _ _)).mono (by decide)
        · exact (okT (mid _ _) (len _ _)).mono (by decide)
        · exact (okL hokW (by rw [lwp]; decide)).mono (by decide)
        · exact (okT (fun d h => hokW d (List.mem_of_mem_drop h)) (by rw [List.length_drop, lwp]; decide)).mono (by decide)
      have oB : ∀ d ∈ thB ++ thC ++ thD ++ thE ++ [.none, .tuple [], w88, w21], OKd 10 d := okAll_mem (by decide +kernel)
      intro d h
      simp only [List.mem_append, List.mem_cons, List.not_mem_nil, or_false] at h oB
      rcases h with ((((h | h) | h) | h) | h) | h
      · exact oA d h
      · exact oB d (.inl (.inl (.inl (.inl h))))
      · exact oB d (.inl (.inl (.inl (.inr h))))
      · exact oB d (.inl (.inl (.inr h)))
      · exact oB d (.inl (.inr h))
      · rcases h with h | h | h | h | h
        · exact oB d (.inr (.inl h))
        · exact oB d (.inr (.inr (.inl h)))
        · rw [h]; exact odok.mono (by decide)
        · exact oB d (.inr (.inr (.inr (.inl h))))
        · exact oB d (.inr (.inr (.inr (.inr h))))
    refine for_known (known_list K e3 xg) (fun i σ H' => (∃ x8 x9 x10 x11 x12 x13 : Option V, σ = [some (.ref a), some (.ref b), some (.ref pw), some (.int (at' : Int)), some (.ref p6), some yo, some (.ref r8), some (.ref pm), x8, x9, x10, x11, x12, x13]) ∧ Same HG H')
      ⟨⟨_, _, _, _, _, _, rfl⟩, Same.refl _⟩ (fun i σ H' _ h => .of (h.2 _ _ hG)) ?_ ?_
    · rintro i x σ H' Nx hN hx ⟨⟨x8, x9, x10, x11, x12, x13, rfl⟩, sm⟩
      obtain ⟨d, hd, hdx⟩ := thG.get hx
      have okd := okG d (List.mem_of_getElem? hd)
      refine ⟨_, rfl, x, d, rfl, Thg.same sm _ _ hdx, okd.1, okd.sh (by decide), fun HI sI => ?_⟩
      refine ⟨_, rfl, _, _, _, true, rfl, .bl _, rfl, true, rfl, iteF ?_⟩
      refine ⟨_, rfl, _, rfl, x, d, rfl, Thg.same (sm.trans sI) _ _ hdx, okd.1, okd.sh (by decide), fun HJ sJ => ⟨rfl, _, rfl, iteNS rfl ?_⟩⟩
      refine ⟨_, rfl, by decide, by decide, ?_⟩
      have sHJ : Same HG HJ := sm.trans (sI.trans sJ)
      clear hx hd
      refine for_known (known_range 0 _) (fun i σ H'' => (∃ x10 x11 x12 : Option V, σ = [some (.ref a), some (.ref b), some (.ref pw), some (.int (at' : Int)), some (.ref p6), some yo, some (.ref r8), some (.ref pm), some x, some (.bl (isWishD d)), x10, x11, x12, x13]) ∧ Same HG H'')
        ⟨⟨_, _, _, rfl⟩, sHJ⟩ (fun _ _ _ _ _ => trivial) ?_ ?_
      · rintro j y σ HK Ny hNy hy ⟨⟨y10, y11, y12, rfl⟩, sHK⟩
        obtain ⟨hj, rfl⟩ := range_item hy
        have sGK : Same H7 HK := s7G.trans sHK
        refine ⟨_, rfl, _, rfl, _, _, rfl, rfl, .inl ⟨by decide, by decide⟩, _, _, rfl, rfl, a, ns, 80 + 10 * j, 5, rfl, (s7.trans sGK).seq ha, hl, by decide, by decide, fun nm HL sL hn1 hn2 => ?_⟩
        dsimp only
        refine tSeq_abs (fun σ' H'' => ∃ nm : S, isNm nm ∧ σ' = [some (.ref a), some (.ref b), some (.ref pw), some (.int (at' : Int)), some (.ref p6), some yo, some (.ref r8), some (.ref pm), some x, some (.bl (isWishD d)), some (.int (j : Int)), some (sv nm), y12, x13] ∧ Same HG H'') ?cont fun N hN' => ?main
        case main =>
          refine ⟨_, rfl, rfl, _, rfl, ite2 (fun _ => ?_) (fun _ => hN' _ _ ⟨nm, hn1, rfl, sHK.trans sL⟩)⟩
          have sL7 : Same H7 HL := sGK.trans sL
          have hbL : HL b = some (.tup (bkV bk)) := (s2'.trans (s27.trans sL7)) _ _ hb1
          have lbk : (bkV bk).length = bk.length := by unfold bkV; rw [List.length_map]
          refine ⟨_, rfl, _, rfl, _, rfl, b, bkV bk, rfl, .inr (.of hbL), a, ns, 79, bk.length, by rw [lbk]; rfl, (s7.trans sL7).seq ha, hl, by omega, by omega, fun dz HM hdz sM => ?_⟩
          obtain ⟨y, hy⟩ : ∃ y, bk[dz]? = some y := ⟨_, List.getElem?_eq_getElem hdz⟩
          have hyv : (bkV bk)[dz]? = some (sv y) := by unfold bkV; rw [List.getElem?_map, hy]; rfl
          exact ⟨b, bkV bk, (dz : Int), sv y, rfl, rfl, .of (sM _ _ hbL), atI_nat hyv, hN' _ _ ⟨y, (bn y (List.mem_of_getElem? hy)).1, rfl, sHK.trans (sL.trans sM)⟩⟩
        case cont =>
          rintro σ2 HM ⟨nm2, hnm2, rfl, sHM⟩
          have s7M : Same H7 HM := s7G.trans sHM
          have hbM : HM b = some (.tup (bkV bk)) := (s2'.trans (s27.trans s7M)) _ _ hb1
          have thb : Thg HM (.tuple (bk.map fun x => PyData.str (tx x))) (.ref b) := ⟨b, _, rfl, hbM, Thgs.strs bk⟩
          have isb : isBk bk := ⟨bl1, by omega, fun x hx => (bn x hx).1⟩
          have okbk : ∀ d ∈ (bk.map fun x => PyData.str (tx x)), OKd 5 d := fun d hd => by
            obtain ⟨x, hx, rfl⟩ := List.mem_map.mp hd
            exact ok_nm (bn x hx).1
          have smb : sml (.tuple (bk.map fun x => PyData.str (tx x))) = true := (okT okbk (by rw [List.length_map]; omega)).1
          have ebk : isBookD (.tuple (bk.map fun x => PyData.str (tx x))) = true := isBookD_of isb
          have hdM := Thg.same sHM _ _ hdx
          have hnl : nm2.length ≤ 900 := by have := hnm2.2.1; omega
          refine ⟨_, rfl, _, rfl, ?_⟩
          cases ew : isWishD d with
          | true =>
            obtain ⟨lo', hi', hd', tl', ba', to', rfl, gw'⟩ := wish_inv ew
            obtain ⟨pa, rfl, hwa⟩ := thg_wish hdM
            refine iteT ⟨_, rfl, _, rfl, _, rfl, b, pa, bk, lo', hi', hd', tl', ba', to', nm2, rfl, hbM, hwa, gw', hnl, ?_⟩
            refine ⟨_, rfl, _, rfl, _, rfl, .ref b, .ref pa, sv nm2, _, wishD lo' hi' hd' tl' ba' to', .str (tx nm2), rfl, thb, hdM, rfl, smb, okd.1, (ok_nm hnm2).1, okd.sh (by decide), (fun z => by rw [ebk] at z; cases z), (fun _ z => by rw [ew] at z; cases z), (fun _ _ z => by rw [isNameD_of hnm2] at z; cases z), (fun bk0 lo0 hi0 hd0 tl0 ba0 to0 y0 _ eb _ ee _ eg HQ sQ => ?_)⟩
            obtain rfl := dstr_inj (PyData.tuple.inj eb)
            obtain ⟨rfl, rfl, rfl, rfl, rfl, rfl⟩ := wishD_inj ee
            obtain rfl := tx_inj (PyData.str.inj eg)
            refine ⟨_, rfl, .bool _, .bool _, rfl, rfl, rfl, rfl, _, rfl, ite_ne rfl (hNy _ _ ⟨⟨some (.int (j : Int)), some (sv nm2), some (.bl (fitsB bk lo' hi' hd' tl' ba' to' nm2)), by rw [ew]; rfl⟩, sHM.trans sQ⟩)⟩
          | false =>
            refine iteF ⟨by show 2 ≤ sizeLine; decide, fun z1 hz1 => ?_⟩
            have u1 := Same.upd1 (o := .tup [V.str "refused", V.int 3]) hz1
            refine ⟨_, rfl, _, rfl, _, rfl, .ref b, x, sv nm2, _, d, .str (tx nm2), rfl, Thg.same u1 _ _ thb, Thg.same u1 _ _ hdM, rfl, smb, okd.1, (ok_nm hnm2).1, okd.sh (by decide), (fun z => by rw [ebk] at z; cases z), (fun _ _ p2 HQ sQ hp2 => ?_), (fun _ z => by rw [ew] at z; cases z), (fun bk0 lo0 hi0 hd0 tl0 ba0 to0 y0 _ _ gq ee _ _ _ _ => by rw [ee] at ew; exact Bool.noConfusion (ew.symm.trans (show isWishD (wishD lo0 hi0 hd0 tl0 ba0 to0) = true from wish_is gq)))⟩
            refine ⟨_, rfl, ref3 3, ref3 3, ⟨p2, _, rfl, .of hp2, _, _, rfl, rfl, _, _, rfl, rfl, rfl⟩, ⟨z1, _, rfl, .of (sQ _ _ upd_same), _, _, rfl, rfl, _, _, rfl, rfl, rfl⟩, by decide +kernel, by decide +kernel, _, rfl, ite_ne (by decide +kernel) (hNy _ _ ⟨⟨some (.int (j : Int)), some (sv nm2), some (.ref z1), by rw [ew]; rfl⟩, sHM.trans (u1.trans sQ)⟩)⟩
      · rintro σ HK ⟨⟨y10, y11, y12, rfl⟩, sHK⟩
        exact hN _ _ ⟨⟨_, _, _, _, _, _, rfl⟩, sHK⟩
    · rintro σ H' ⟨⟨x8, x9, x10, x11, x12, x13, rfl⟩, sm⟩
      have sK0 : Same H7 H' := s7G.trans sm
      refine ⟨by show 4 ≤ sizeLine; decide, fun z1 hz1 => ?_⟩
      have u1 := Same.upd1 (o := .lst [V.str "", V.str "A", V.non, V.int 1]) hz1
      refine ⟨_, rfl, a, ns, 72, 4, rfl, (s7.trans (sK0.trans u1)).seq ha, hl, by decide, by decide, fun dz HK hdz sK' => ?_⟩
      have tb : Thgs HK badD [V.str "", V.str "A", V.non, V.int 1] := ⟨_, _, rfl, rfl, _, _, rfl, rfl, _, _, rfl, rfl, _, _, rfl, rfl, rfl⟩
      obtain ⟨vb, hvb⟩ : ∃ y, ([V.str "", V.str "A", V.non, V.int 1] : List V)[dz]? = some y := ⟨_, List.getElem?_eq_getElem (show dz < 4 from hdz)⟩
      obtain ⟨bd, hbd, hbv⟩ := tb.get hvb
      have okb : OKd 10 bd ∧ isNameD bd = false := by
        have all : badD.all (fun d => (sml d && (d.canLay0 && decide (d.depth ≤ 10))) && !isNameD d) = true := by decide +kernel
        have := List.all_eq_true.mp all bd (List.mem_of_getElem? hbd)
        simp only [Bool.and_eq_true, decide_eq_true_eq, Bool.not_eq_true'] at this
        exact this
      refine ⟨z1, _, (dz : Int), vb, rfl, rfl, .of (sK' _ _ upd_same), atI_nat hvb, ?_⟩
      have s7K := sK0.trans (u1.trans sK')
      have sHK := s7.trans s7K
      have hb7 : Same H1 HK := s2'.trans (s27.trans s7K)
      have hbK := hb7 _ _ hb1
      have thb : Thg HK (.tuple (bk.map fun x => PyData.str (tx x))) (.ref b) := ⟨b, _, rfl, hbK, Thgs.strs bk⟩
      have isb : isBk bk := ⟨bl1, by omega, fun x hx => (bn x hx).1⟩
      have okbk : ∀ d ∈ (bk.map fun x => PyData.str (tx x)), OKd 5 d := fun d hd => by
        obtain ⟨x, hx, rfl⟩ := List.mem_map.mp hd
        exact ok_nm (bn x hx).1
      have smb : sml (.tuple (bk.map fun x => PyData.str (tx x))) = true := (okT okbk (by rw [List.length_map]; omega)).1
      have hwK := hw7.same s7K
      obtain ⟨xk, hxk, thk, lk⟩ := thg_wishP hwK
      have okw := okT hokW (show 6 ≤ 900 by decide)
      have ebk : isBookD (.tuple (bk.map fun x => PyData.str (tx x))) = true := isBookD_of isb
      have rep3 : ∀ {H9 : Hp} {p : Addr} {j : Nat}, RefT H9 p j → Rep K H9 (ref3 j) (.ref p) := fun {H9 p j} h => ⟨p, _, rfl, .of h, _, _, rfl, rfl, _, _, rfl, rfl, rfl⟩
      refine ⟨_, rfl, _, rfl, _, rfl, .ref b, .ref pw, vb, _, .tuple (wishP lo hi hd tl ba to), bd, rfl, thb, ⟨pw, xk, rfl, hxk, thk⟩, hbv, smb, okw.1, okb.1.1, okw.sh (by decide), (fun z => by rw [ebk] at z; cases z), (fun _ z => by rw [wish_is gw] at z; cases z), (fun _ _ _ p1 HL sL hp1 => ?_), (fun _ _ _ _ _ _ _ y _ _ _ _ hy e => by rw [e, isNameD_of hy] at okb; cases okb.2)⟩
      intro vr HM sM hr
      refine ⟨ref3 2, ref3 2, rep3 (sM _ _ hp1), Thg.rep _ _ hr, by decide +kernel, by decide +kernel, _, rfl, ite_ne (by decide +kernel) ?_⟩
      have sKM := sL.trans sM
      refine ⟨_, rfl, _, rfl, _, rfl, pw, xk, rfl, sKM _ _ hxk, fun q1 HN uN hq1 => ?_⟩
      have hq1' : HN q1 = some (.tup (xk.take 5)) := by rw [hq1]; show some (HO.tup (cutV xk none (some ((5 : Nat) : Int)))) = _; rw [cutV_to]
      have sKN := sKM.trans uN
      have ok5 : OKd 7 (.tuple ((wishP lo hi hd tl ba to).take 5)) := okT (fun d h => hokW d (List.mem_of_mem_take h)) (show 5 ≤ 900 by decide)
      have nw5 : isWishD (.tuple ((wishP lo hi hd tl ba to).take 5)) = false := wish_len (show 5 ≠ 6 by decide)
      refine ⟨_, rfl, .ref b, .ref q1, vb, _, .tuple ((wishP lo hi hd tl ba to).take 5), bd, rfl, Thg.same sKN _ _ thb, ⟨q1, _, rfl, hq1', Thgs.take 5 (Thgs.same sKN _ _ thk)⟩, Thg.same sKN _ _ hbv, smb, ok5.1, okb.1.1, ok5.sh (by decide), (fun z => by rw [ebk] at z; cases z), (fun _ _ p2 HO2 sO hp2 => ?_), (fun _ z => by rw [nw5] at z; cases z), (fun _ _ _ _ _ _ _ y _ _ _ _ hy e => by rw [e, isNameD_of hy] at okb; cases okb.2)⟩
      intro vr2 HP sP hr2
      refine ⟨ref3 3, ref3 3, rep3 (sP _ _ hp2), Thg.rep _ _ hr2, by decide +kernel, by decide +kernel, _, rfl, ite_ne (by decide +kernel) ?_⟩
      have sKP := sKN.trans (sO.trans sP)
      refine ⟨_, rfl, b, _, rfl, .inr (.of (sKP _ _ hbK)), fun q2 hq2 => ?_⟩
      have uQ := Same.upd1 (o := .lst (bkV bk)) hq2
      have sKQ := sKP.trans uQ
      refine ⟨_, rfl, _, rfl, pw, xk, rfl, sKQ _ _ hxk, fun q3 HR uR hq3 => ?_⟩
      have hq3' : HR q3 = some (.tup (xk.take 5)) := by rw [hq3]; show some (HO.tup (cutV xk none (some ((5 : Nat) : Int)))) = _; rw [cutV_to]
      have sKR := sKQ.trans uR
      have okl : OKd 6 (.list (bk.map fun x => PyData.str (tx x))) := okL okbk (by rw [List.length_map]; omega)
      refine ⟨_, rfl, .ref q2, .ref q3, vb, .list (bk.map fun x => PyData.str (tx x)), .tuple ((wishP lo hi hd tl ba to).take 5), bd, rfl, ⟨q2, _, rfl, uR _ _ upd_same, Thgs.strs bk⟩, ⟨q3, _, rfl, hq3', Thgs.take 5 (Thgs.same sKR _ _ thk)⟩, Thg.same sKR _ _ hbv, okl.1, ok5.1, okb.1.1, ok5.sh (by decide), (fun _ p3 HS sS hp3 => ?_), (fun z => by cases z), (fun z => by cases z), (fun _ _ _ _ _ _ _ y _ z _ _ _ _ => by cases z)⟩
      intro vr3 HT sT hr3
      refine ⟨ref3 0, ref3 0, rep3 (sT _ _ hp3), Thg.rep _ _ hr3, by decide +kernel, by decide +kernel, ?_⟩
      have e9 : (if false = true then !PyData.eqv (ref3 0) (ref3 0) else PyData.eqv (ref3 0) (ref3 0)) = true := by decide +kernel
      rw [e9]
      exact k _
end
end Kn
end
section
set_option Elab.async false
set_option linter.all false
set_option maxRecDepth 100000
set_option maxHeartbeats 4000000
namespace Kn
open PySem L2
def Has (K : PySem.W.Frag) (x : Str) (st : Stmt) (ps : List Str) : Prop :=
  ∃ (f : Addr) (fd : FuncData), PySem.W.nsIn K mainGlobals x = some (some (.ref f)) ∧ Fun K x x st f fd ∧ PySem.W.keepIn K (.ref f) = true ∧ Binds K fd ps []
theorem has_mk {K : PySem.W.Frag} {x : Str} {st : Stmt} {f : Addr} {oc kV dc pm cd ct : Value} {od an : Option Addr} {sl : Array (Option Value)} (ps : List Str)
    (hb : ∀ (fd : FuncData), Fun K x x st f fd → Binds K fd ps [])
    (a : PySem.W.nsIn K mainGlobals x = some (some (.ref f))) (l : K.lookup f = some ⟨oc, od, .func (PySem.W.fnOf x x (defArgs st) (defBody st) (defScope st) .none kV dc pm an cd ct), sl⟩) (c : PySem.W.codeIn K cd x = true) (k : PySem.W.keepIn K (.ref f) = true) : Has K x st ps :=
  ⟨f, _, a, fun_mk (st := st) l c k, k, hb _ (fun_mk (st := st) l c k)⟩
structure Top (K : PySem.W.Frag) : Prop where
  is_name : Has K "is_name" sIsName ["thing"]
  is_book : Has K "is_book" sIsBook ["thing"]
  is_whole : Has K "is_whole" sIsWhole ["thing", "least", "most"]
  is_rising : Has K "is_rising" sRising ["things"]
  need_book : Has K "need_book" sNeedBook ["thing"]
  need_name : Has K "need_name" sNeedName ["thing"]
  is_edge : Has K "is_edge" sEdge ["thing"]
  is_barred : Has K "is_barred" sBarred ["thing"]
  is_wish : Has K "is_wish" sWish ["thing"]
  need_wish : Has K "need_wish" sNeedWish ["thing"]
  form : Has K "has_form" sForm ["wish", "name"]
  out : Has K "left_out" sOut ["book", "wish"]
  fits : Has K "fits" sFits ["book", "wish", "name"]
  cell : Has K "_law_cell" sCell ["_law_script", "_law_k"]
  drawn : Has K "_law_drawn" sDrawn ["_law_script", "_law_k", "_law_many"]
  lname : Has K "_law_name" sName ["_law_script", "_law_at", "_law_most"]
  lbook : Has K "_law_book" sBook ["_law_script", "_law_at", "_law_many", "_law_most"]
  lwish : Has K "_law_wish" sLW ["_law_script", "_law_at"]
  lfits : Has K "_law_fits" sLFits ["_law_book_here", "_law_wish_here", "_law_name_here"]
  lrefused : Has K "_law_refused" sRefused ["_law_e"]
  ltold : Has K "_law_told" sTold ["_law_book_here", "_law_wish_here", "_law_name_here"]
  llet : Has K "_law_letters" sLet ["_law_thing", "_law_least", "_law_most"]
  liswish : Has K "_law_is_wish" sLWish ["_law_thing"]
  letters : ∃ t, PySem.W.nsIn K mainGlobals "LETTERS" = some (some (.str letters t))
  ml : ∃ t, PySem.W.nsIn K mainGlobals "MOST_LETTERS" = some (some (.int 8 t))
  mn : ∃ t, PySem.W.nsIn K mainGlobals "MOST_NAMES" = some (some (.int 8 t))
  w0 : ∃ t, PySem.W.nsIn K mainGlobals "LEAST" = some (some (.int 0 t))
  w1 : ∃ t, PySem.W.nsIn K mainGlobals "MOST" = some (some (.int 1 t))
  w2 : ∃ t, PySem.W.nsIn K mainGlobals "HEAD" = some (some (.int 2 t))
  w3 : ∃ t, PySem.W.nsIn K mainGlobals "TAIL" = some (some (.int 3 t))
  w4 : ∃ t, PySem.W.nsIn K mainGlobals "BARRED" = some (some (.int 4 t))
  w5 : ∃ t, PySem.W.nsIn K mainGlobals "TOLD" = some (some (.int 5 t))
  w6 : ∃ t, PySem.W.nsIn K mainGlobals "MANY_PARTS" = some (some (.int 6 t))
  w7 : ∃ t, PySem.W.nsIn K mainGlobals "MOST_EDGE" = some (some (.int 3 t))
  w8 : ∃ t, PySem.W.nsIn K mainGlobals "MOST_BARRED" = some (some (.int 6 t))
  ib : PySem.W.kitOne K (.type "int") (.type "bool") = some false
  errs : ∃ cs L, ∀ (h : Heap) (mg : Str → Option Value), K.In h → h.Ns mainGlobals mg → ErrX K mg cs L
  kitf : KitF K
  kitb : KitB K
  zlen : PySem.W.nsIn K mainGlobals "len" = some none
  zrange : PySem.W.nsIn K mainGlobals "range" = some none
  zall : PySem.W.nsIn K mainGlobals "all" = some none
  zisinstance : PySem.W.nsIn K mainGlobals "isinstance" = some none
  zstr : PySem.W.nsIn K mainGlobals "str" = some none
  ztuple : PySem.W.nsIn K mainGlobals "tuple" = some none
  zint : PySem.W.nsIn K mainGlobals "int" = some none
  zbool : PySem.W.nsIn K mainGlobals "bool" = some none
  zsorted : PySem.W.nsIn K mainGlobals "sorted" = some none
  zsum : PySem.W.nsIn K mainGlobals "sum" = some none
  zmin : PySem.W.nsIn K mainGlobals "min" = some none
  zmax : PySem.W.nsIn K mainGlobals "max" = some none
  zlist : PySem.W.nsIn K mainGlobals "list" = some none
  zset : PySem.W.nsIn K mainGlobals "set" = some none
  zzip : PySem.W.nsIn K mainGlobals "zip" = some none
  zenumerate : PySem.W.nsIn K mainGlobals "enumerate" = some none
  zValueError : PySem.W.nsIn K mainGlobals "ValueError" = some none
theorem letters_eq : (Str.ofString "abcdefghijklmnopqrstuvwxyz") = letters := by decide +kernel
theorem lets_mk {K : PySem.W.Frag} {t : Tok} (h : PySem.W.nsIn K mainGlobals "LETTERS" = some (some (.str (Str.ofString "abcdefghijklmnopqrstuvwxyz") t))) : ∃ t, PySem.W.nsIn K mainGlobals "LETTERS" = some (some (.str letters t)) := by
  rw [letters_eq] at h; exact ⟨t, h⟩
theorem int_mk {K : PySem.W.Frag} {x : Str} {i : Int} {t : Tok} (h : PySem.W.nsIn K mainGlobals x = some (some (.int i t))) : ∃ t, PySem.W.nsIn K mainGlobals x = some (some (.int i t)) := ⟨t, h⟩
section
variable {P : Program} {w : World} {K : PySem.W.Frag} {mg : Str → Option Value} {base : Heap} {h : Heap}
theorem cal_of {x : Str} {st : Stmt} {ps : List Str} {k : Nat} {sp : Sp} (X : K.In h) (G : h.Ns mainGlobals mg) (H : Has K x st ps) (ok : ∀ (f : Addr) (fd : FuncData), Fun K x x st f fd → FnOk P w K mg base CX0 k f fd ps sp) : Cal P w K mg base k x ps sp := by
  obtain ⟨f, fd, a, F, kp, b⟩ := H
  exact ⟨f, fd, ok f fd F, PySem.W.mg_of X G a, kp, b⟩
theorem cal_ofR {x : Str} {st : Stmt} {ps : List Str} {k : Nat} {sp : Sp} (X : K.In h) (G : h.Ns mainGlobals mg) (H : Has K x st ps) (ok : ∀ (f : Addr) (fd : FuncData), Fun K x x st f fd → FnOk P w K mg base (CXr P w) k f fd ps sp) : CalR P w K mg base k x ps sp := by
  obtain ⟨f, fd, a, F, kp, b⟩ := H
  exact ⟨f, fd, ok f fd F, PySem.W.mg_of X G a, kp, b⟩
theorem cal_ofB {x : Str} {st : Stmt} {ps : List Str} {k : Nat} {sp : Sp} (X : K.In h) (G : h.Ns mainGlobals mg) (H : Has K x st ps) (ok : ∀ (f : Addr) (fd : FuncData), Fun K x x st f fd → FnB P w K mg base CX0 k f fd ps sp) : CalB P w K mg base k x ps sp := by
  obtain ⟨f, fd, a, F, kp, b⟩ := H
  exact ⟨f, fd, ok f fd F, PySem.W.mg_of X G a, kp, b⟩
theorem law_mk (X : K.In h) (G : h.Ns mainGlobals mg) (T : Top K) {f : Addr} {fd : FuncData} (F : Fun K "law" "law" sLaw f fd) : FnOk P w K mg base CX0 9 f fd ["_law_script"] (spLaw K) := by
  have B : Blt mg := ⟨PySem.W.mg_none_of X G T.zlen, PySem.W.mg_none_of X G T.zrange, PySem.W.mg_none_of X G T.zall, PySem.W.mg_none_of X G T.zisinstance, PySem.W.mg_none_of X G T.zstr, PySem.W.mg_none_of X G T.ztuple, PySem.W.mg_none_of X G T.zint, PySem.W.mg_none_of X G T.zbool, PySem.W.mg_none_of X G T.zsorted, PySem.W.mg_none_of X G T.zsum, PySem.W.mg_none_of X G T.zmin⟩
  have C : Cst K mg := ⟨let ⟨t, e⟩ := T.letters; ⟨t, PySem.W.mg_of X G e⟩, let ⟨t, e⟩ := T.ml; ⟨t, PySem.W.mg_of X G e⟩, let ⟨t, e⟩ := T.mn; ⟨t, PySem.W.mg_of X G e⟩, T.ib⟩
  have hli := PySem.W.mg_none_of X G T.zlist
  have hse := PySem.W.mg_none_of X G T.zset
  have hzi := PySem.W.mg_none_of X G T.zzip
  have hmx := PySem.W.mg_none_of X G T.zmax
  have hen := PySem.W.mg_none_of X G T.zenumerate
  have W : CstW mg := ⟨let ⟨t, e⟩ := T.w0; ⟨t, PySem.W.mg_of X G e⟩, let ⟨t, e⟩ := T.w1; ⟨t, PySem.W.mg_of X G e⟩, let ⟨t, e⟩ := T.w2; ⟨t, PySem.W.mg_of X G e⟩, let ⟨t, e⟩ := T.w3; ⟨t, PySem.W.mg_of X G e⟩, let ⟨t, e⟩ := T.w4; ⟨t, PySem.W.mg_of X G e⟩, let ⟨t, e⟩ := T.w5; ⟨t, PySem.W.mg_of X G e⟩, let ⟨t, e⟩ := T.w6; ⟨t, PySem.W.mg_of X G e⟩, let ⟨t, e⟩ := T.w7; ⟨t, PySem.W.mg_of X G e⟩, let ⟨t, e⟩ := T.w8; ⟨t, PySem.W.mg_of X G e⟩⟩
  obtain ⟨cs, L, hE⟩ := T.errs
  have E := hE h mg X G
  have KF := T.kitf
  have KB := T.kitb
  have BE : BltE mg := ⟨PySem.W.mg_none_of X G T.zisinstance, PySem.W.mg_none_of X G T.zValueError⟩
  have cIsName := cal_of (P := P) (w := w) (base := base) X G T.is_name fun f fd F => ok_isnameT F B C KF
  have cIsBook := cal_of (P := P) (w := w) (base := base) X G T.is_book fun f fd F => ok_isbookT F B C KF cIsName
  have cIsWhole := cal_of (P := P) (w := w) (base := base) X G T.is_whole fun f fd F => ok_iswholeT F B C KF
  have cRis := cal_of (P := P) (w := w) (base := base) X G T.is_rising fun f fd F => ok_rising F B hzi
  have cNB := cal_ofR (P := P) (w := w) (base := base) X G T.need_book fun f fd F => ok_needbookR F (E.at_ 0 (by decide)).1 cIsBook
  have cNN := cal_ofR (P := P) (w := w) (base := base) X G T.need_name fun f fd F => ok_neednameR F (E.at_ 2 (by decide)).1 cIsName
  have cEd := cal_of (P := P) (w := w) (base := base) X G T.is_edge fun f fd F => ok_edge F B W cIsName
  have cBa := cal_of (P := P) (w := w) (base := base) X G T.is_barred fun f fd F => ok_barred F B KF W cIsName cRis
  have cWi := cal_of (P := P) (w := w) (base := base) X G T.is_wish fun f fd F => ok_wish F B C KF KB W cIsWhole cEd cBa
  have cNW := cal_ofR (P := P) (w := w) (base := base) X G T.need_wish fun f fd F => ok_needwish F (E.at_ 3 (by decide)).1 cWi
  have cFo := cal_of (P := P) (w := w) (base := base) X G T.form fun f fd F => ok_form F B W
  have cOu := cal_of (P := P) (w := w) (base := base) X G T.out fun f fd F => ok_out F B W hli hse
  have cFi := cal_ofR (P := P) (w := w) (base := base) X G T.fits fun f fd F => ok_fits F cNB cNW cNN cFo cOu
  have cCell := cal_of (P := P) (w := w) (base := base) X G T.cell fun f fd F => ok_cell F B
  have cDrawn := cal_of (P := P) (w := w) (base := base) X G T.drawn fun f fd F => ok_drawn F cCell
  have cName := cal_of (P := P) (w := w) (base := base) X G T.lname fun f fd F => ok_name F B cDrawn
  have cBook := cal_of (P := P) (w := w) (base := base) X G T.lbook fun f fd F => ok_book F B cDrawn cName
  have cLW := cal_of (P := P) (w := w) (base := base) X G T.lwish fun f fd F => ok_lw F B hen cDrawn
  have cLF := cal_of (P := P) (w := w) (base := base) X G T.lfits fun f fd F => ok_lfits F B hmx
  have cRef := cal_ofB (P := P) (w := w) (base := base) X G T.lrefused fun f fd F => ok_refused F BE E
  have cTold := cal_of (P := P) (w := w) (base := base) X G T.ltold fun f fd F => ok_told F E cFi cRef
  have cLet := cal_of (P := P) (w := w) (base := base) X G T.llet fun f fd F => ok_let F B KF
  have cLI := cal_of (P := P) (w := w) (base := base) X G T.liswish fun f fd F => ok_lwish F B C KF KB hli hse cLet
  exact ok_law F B hli ⟨cDrawn, cName, cBook, cLW, cLF, cTold, cLI, cWi⟩
end
theorem all_mk {l : PySem.W.OpenLaw} {w : World} {K : PySem.W.Frag} {h : Heap} {mg : Str → Option Value} {fa f4 : Addr} (X : K.In h) (G : h.Ns mainGlobals mg) (hfa : mg "law" = some (.ref fa))
    {od4 an4 : Option Addr} {sl4 : Array (Option Value)} {oc4 kV4 dc4 pm4 cd4 ct4 : Value} (T : Top K)
    (a4 : PySem.W.nsIn K mainGlobals "law" = some (some (.ref f4))) (l4 : K.lookup f4 = some ⟨oc4, od4, .func (PySem.W.fnOf "law" "law" (defArgs sLaw) (defBody sLaw) (defScope sLaw) .none kV4 dc4 pm4 an4 cd4 ct4), sl4⟩) (c4 : PySem.W.codeIn K cd4 "law" = true) (k4 : PySem.W.keepIn K (.ref f4) = true) :
    ∃ fd : FuncData, (∀ (s : Shared) (v : Value), BindsTo s fd ⟨[v], []⟩ [("_law_script", v)]) ∧ ∀ base : Heap, K.In base → base.Ns mainGlobals mg → FnOk l.prog w K mg base CX0 9 fa fd ["_law_script"] (spLaw K) := by
  have e := hfa.symm.trans (PySem.W.mg_of X G a4)
  cases e
  have F4 := fun_mk (st := sLaw) l4 c4 k4
  exact ⟨PySem.W.fnOf "law" "law" (defArgs sLaw) (defBody sLaw) (defScope sLaw) .none kV4 dc4 pm4 an4 cd4 ct4, fun s v => .of_eq rfl, fun base _ _ => law_mk X G T F4⟩
theorem walk {l : PySem.W.OpenLaw} {q : Program} {loose : List Str} {XP : (Str → Option Value) → Heap → Prop} {YP : World → Heap → Prop} {d : DefRec} {K : Params → PySem.W.Frag} (hn : l.most = some 63) (hdf : d.params.defaults = [])
    (hY : ∀ (w : World) (h : Heap), YP w h → (K w.params).In h)
    (F : ∀ (w : World) (mg : Str → Option Value) (fa : Addr) (h : Heap), (K w.params).In h → h.Ns mainGlobals mg → mg d.name = some (.ref fa) →
      ∃ fd : FuncData, (∀ (s : Shared) (u : Value), BindsTo s fd ⟨[u], []⟩ [("_law_script", u)]) ∧ ∀ base : Heap, (K w.params).In base → base.Ns mainGlobals mg → FnOk l.prog w (K w.params) mg base CX0 9 fa fd ["_law_script"] (spLaw (K w.params))) :
    PySem.W.WalkO q loose XP YP l.row.toRowW d [] (fun f vs => PySem.call f vs) :=
  L2.walk_of (n := 63) (k := 9) (x := "_law_script") (CX := fun _ => CX0) (sp := fun w => spLaw (K w.params)) hn (by decide) hdf ⟨rfl, by decide, by decide⟩ hY F (fun _ _ a ns hl _ hS => ⟨a, ns, rfl, hS, hl, fun _ => rfl⟩) fun _ _ _ _ _ z => z
end Kn
end
section
set_option Elab.async false
set_option linter.all false
open PySem PySem.W PyProof.Rows
set_option Elab.async false
set_option maxRecDepth 100000
set_option maxHeartbeats 0
namespace Kn
open L2
def kE (P : Params) (x : Str) (t : Nat) (v : Value) : DictEntry := ⟨PyData.keyHash P x, .str x t, v⟩
def kF (s : Stmt) (nm qn : Str) (df kd doc pm : Value) (an : Option Addr) (cd ct : Value) (c : Value) (d : Option Addr) (sl : Array (Option Value)) : Obj :=
  ⟨c, d, .func (PySem.W.fnOf nm qn (defArgs s) (defBody s) (defScope s) df kd doc pm an cd ct), sl⟩
noncomputable def kfr : Params → Frag := fun P => (nat_lit 2, ⟨.none, none, .dict #[] 0, #[]⟩) ::
  (nat_lit 3, ⟨(.type "dict"), none, .dict #[kE P (.ofString "__name__") 165 (.str (.ofString "law_kinnames_k30_wishes") 456), kE P (.ofString "__doc__") 166 .none, kE P (.ofString "__package__") 167 .none, kE P (.ofString "__loader__") 168 (.builtin "__main__.__loader__#opaque"), kE P (.ofString "__spec__") 169 .none, kE P (.ofString "__annotations__") 170 (.ref 6), kE P (.ofString "__builtins__") 171 (.ref 4), kE P (.ofString "__file__") 173 (.str (.ofString "/claim/cut.py") 172), kE P (.ofString "__cached__") 174 .none, kE P (.ofString "LikeError") 206 (.ref 24), kE P (.ofString "NoBook") 222 (.ref 37), kE P (.ofString "NoOrder") 238 (.ref 49), kE P (.ofString "NoName") 254 (.ref 61), kE P (.ofString "NoWish") 270 (.ref 73), kE P (.ofString "NoNumber") 286 (.ref 85), kE P (.ofString "NotMade") 302 (.ref 97), kE P (.ofString "TooShort") 318 (.ref 109), kE P (.ofString "Nothing") 334 (.ref 121), kE P (.ofString "LETTERS") 338 (.str (.ofString "abcdefghijklmnopqrstuvwxyz") 337), kE P (.ofString "MOST_LETTERS") 340 (.int (8) 339), kE P (.ofString "MOST_NAMES") 342 (.int (8) 341), kE P (.ofString "is_name") 348 (.ref 128), kE P (.ofString "is_book") 354 (.ref 133), kE P (.ofString "is_whole") 363 (.ref 140), kE P (.ofString "is_rising") 369 (.ref 145), kE P (.ofString "need_book") 376 (.ref 152), kE P (.ofString "need_name") 383 (.ref 159), kE P (.ofString "LEAST") 387 (.int (0) 386), kE P (.ofString "MOST") 389 (.int (1) 388), kE P (.ofString "HEAD") 391 (.int (2) 390), kE P (.ofString "TAIL") 393 (.int (3) 392), kE P (.ofString "BARRED") 395 (.int (4) 394), kE P (.ofString "TOLD") 397 (.int (5) 396), kE P (.ofString "MANY_PARTS") 399 (.int (6) 398), kE P (.ofString "MOST_EDGE") 401 (.int (3) 400), kE P (.ofString "MOST_BARRED") 403 (.int (6) 402), kE P (.ofString "is_edge") 410 (.ref 166), kE P (.ofString "is_barred") 416 (.ref 171), kE P (.ofString "is_wish") 423 (.ref 178), kE P (.ofString "need_wish") 430 (.ref 185), kE P (.ofString "has_form") 438 (.ref 192), kE P (.ofString "left_out") 446 (.ref 199), kE P (.ofString "fits") 455 (.ref 206), kE P (.ofString "_law_cell") 465 (.ref 213), kE P (.ofString "_law_drawn") 475 (.ref 220), kE P (.ofString "_law_name") 481 (.ref 225), kE P (.ofString "_law_book") 493 (.ref 232), kE P (.ofString "_law_wish") 508 (.ref 239), kE P (.ofString "_law_fits") 517 (.ref 246), kE P (.ofString "_law_refused") 525 (.ref 253), kE P (.ofString "_law_told") 535 (.ref 260), kE P (.ofString "_law_letters") 541 (.ref 265), kE P (.ofString "_law_is_wish") 547 (.ref 270), kE P (.ofString "law") 567 (.ref 277)] 54, #[]⟩) ::
  (nat_lit 23, ⟨(.type "dict"), none, .dict #[kE P (.ofString "__module__") 196 (.str (.ofString "kinnames.errors") 187), kE P (.ofString "__firstlineno__") 200 (.int (2) 199), kE P (.ofString "__static_attributes__") 201 (.ref 22), kE P (.ofString "__weakref__") 203 (.ref 25), kE P (.ofString "__doc__") 204 .none] 3, #[]⟩) ::
  (nat_lit 24, ⟨(.type "type"), none, .cls ⟨(.ofString "LikeError"), [(.type "ValueError")], [(.ref 24), (.type "ValueError"), (.type "Exception"), (.type "BaseException"), (.type "object")], 23, (.ofString "LikeError"), true, [], [(.ref 37), (.ref 49), (.ref 61), (.ref 73), (.ref 85), (.ref 97), (.ref 109), (.ref 121)], false, none, false⟩, #[(some (.ref 15)), none, (some (.str (.ofString "LikeError") 189)), (some (.str (.ofString "LikeError") 197)), (some (.builtin "ValueError.__new__")), (some (.bool true))]⟩) ::
  (nat_lit 25, ⟨(.type "getset_descriptor"), none, .fields #[(.str (.ofString "__weakref__") 202), (.ref 24), (.builtin "ExceptionGroup.__weakref__"), .none], #[]⟩) ::
  (nat_lit 36, ⟨(.type "dict"), none, .dict #[kE P (.ofString "__module__") 214 (.str (.ofString "kinnames.errors") 187), kE P (.ofString "__firstlineno__") 218 (.int (4) 217), kE P (.ofString "__static_attributes__") 219 (.ref 35), kE P (.ofString "__doc__") 220 .none] 2, #[]⟩) ::
  (nat_lit 37, ⟨(.type "type"), none, .cls ⟨(.ofString "NoBook"), [(.ref 24)], [(.ref 37), (.ref 24), (.type "ValueError"), (.type "Exception"), (.type "BaseException"), (.type "object")], 36, (.ofString "NoBook"), true, [], [], false, none, false⟩, #[(some (.ref 28)), none, (some (.str (.ofString "NoBook") 207)), (some (.str (.ofString "NoBook") 215)), (some (.builtin "ValueError.__new__")), (some (.bool true))]⟩) ::
  (nat_lit 48, ⟨(.type "dict"), none, .dict #[kE P (.ofString "__module__") 230 (.str (.ofString "kinnames.errors") 187), kE P (.ofString "__firstlineno__") 234 (.int (6) 233), kE P (.ofString "__static_attributes__") 235 (.ref 47), kE P (.ofString "__doc__") 236 .none] 2, #[]⟩) ::
  (nat_lit 49, ⟨(.type "type"), none, .cls ⟨(.ofString "NoOrder"), [(.ref 24)], [(.ref 49), (.ref 24), (.type "ValueError"), (.type "Exception"), (.type "BaseException"), (.type "object")], 48, (.ofString "NoOrder"), true, [], [], false, none, false⟩, #[(some (.ref 40)), none, (some (.str (.ofString "NoOrder") 223)), (some (.str (.ofString "NoOrder") 231)), (some (.builtin "ValueError.__new__")), (some (.bool true))]⟩) ::
  (nat_lit 60, ⟨(.type "dict"), none, .dict #[kE P (.ofString "__module__") 246 (.str (.ofString "kinnames.errors") 187), kE P (.ofString "__firstlineno__") 250 (.int (8) 249), kE P (.ofString "__static_attributes__") 251 (.ref 59), kE P (.ofString "__doc__") 252 .none] 2, #[]⟩) ::
  (nat_lit 61, ⟨(.type "type"), none, .cls ⟨(.ofString "NoName"), [(.ref 24)], [(.ref 61), (.ref 24), (.type "ValueError"), (.type "Exception"), (.type "BaseException"), (.type "object")], 60, (.ofString "NoName"), true, [], [], false, none, false⟩, #[(some (.ref 52)), none, (some (.str (.ofString "NoName") 239)), (some (.str (.ofString "NoName") 247)), (some (.builtin "ValueError.__new__")), (some (.bool true))]⟩) ::
  (nat_lit 72, ⟨(.type "dict"), none, .dict #[kE P (.ofString "__module__") 262 (.str (.ofString "kinnames.errors") 187), kE P (.ofString "__firstlineno__") 266 (.int (10) 265), kE P (.ofString "__static_attributes__") 267 (.ref 71), kE P (.ofString "__doc__") 268 .none] 2, #[]⟩) ::
  (nat_lit 73, ⟨(.type "type"), none, .cls ⟨(.ofString "NoWish"), [(.ref 24)], [(.ref 73), (.ref 24), (.type "ValueError"), (.type "Exception"), (.type "BaseException"), (.type "object")], 72, (.ofString "NoWish"), true, [], [], false, none, false⟩, #[(some (.ref 64)), none, (some (.str (.ofString "NoWish") 255)), (some (.str (.ofString "NoWish") 263)), (some (.builtin "ValueError.__new__")), (some (.bool true))]⟩) ::
  (nat_lit 84, ⟨(.type "dict"), none, .dict #[kE P (.ofString "__module__") 278 (.str (.ofString "kinnames.errors") 187), kE P (.ofString "__firstlineno__") 282 (.int (12) 281), kE P (.ofString "__static_attributes__") 283 (.ref 83), kE P (.ofString "__doc__") 284 .none] 2, #[]⟩) ::
  (nat_lit 85, ⟨(.type "type"), none, .cls ⟨(.ofString "NoNumber"), [(.ref 24)], [(.ref 85), (.ref 24), (.type "ValueError"), (.type "Exception"), (.type "BaseException"), (.type "object")], 84, (.ofString "NoNumber"), true, [], [], false, none, false⟩, #[(some (.ref 76)), none, (some (.str (.ofString "NoNumber") 271)), (some (.str (.ofString "NoNumber") 279)), (some (.builtin "ValueError.__new__")), (some (.bool true))]⟩) ::
  (nat_lit 96, ⟨(.type "dict"), none, .dict #[kE P (.ofString "__module__") 294 (.str (.ofString "kinnames.errors") 187), kE P (.ofString "__firstlineno__") 298 (.int (14) 297), kE P (.ofString "__static_attributes__") 299 (.ref 95), kE P (.ofString "__doc__") 300 .none] 2, #[]⟩) ::
  (nat_lit 97, ⟨(.type "type"), none, .cls ⟨(.ofString "NotMade"), [(.ref 24)], [(.ref 97), (.ref 24), (.type "ValueError"), (.type "Exception"), (.type "BaseException"), (.type "object")], 96, (.ofString "NotMade"), true, [], [], false, none, false⟩, #[(some (.ref 88)), none, (some (.str (.ofString "NotMade") 287)), (some (.str (.ofString "NotMade") 295)), (some (.builtin "ValueError.__new__")), (some (.bool true))]⟩) ::
  (nat_lit 108, ⟨(.type "dict"), none, .dict #[kE P (.ofString "__module__") 310 (.str (.ofString "kinnames.errors") 187), kE P (.ofString "__firstlineno__") 314 (.int (16) 313), kE P (.ofString "__static_attributes__") 315 (.ref 107), kE P (.ofString "__doc__") 316 .none] 2, #[]⟩) ::
  (nat_lit 109, ⟨(.type "type"), none, .cls ⟨(.ofString "TooShort"), [(.ref 24)], [(.ref 109), (.ref 24), (.type "ValueError"), (.type "Exception"), (.type "BaseException"), (.type "object")], 108, (.ofString "TooShort"), true, [], [], false, none, false⟩, #[(some (.ref 100)), none, (some (.str (.ofString "TooShort") 303)), (some (.str (.ofString "TooShort") 311)), (some (.builtin "ValueError.__new__")), (some (.bool true))]⟩) ::
  (nat_lit 120, ⟨(.type "dict"), none, .dict #[kE P (.ofString "__module__") 326 (.str (.ofString "kinnames.errors") 187), kE P (.ofString "__firstlineno__") 330 (.int (18) 329), kE P (.ofString "__static_attributes__") 331 (.ref 119), kE P (.ofString "__doc__") 332 .none] 2, #[]⟩) ::
  (nat_lit 121, ⟨(.type "type"), none, .cls ⟨(.ofString "Nothing"), [(.ref 24)], [(.ref 121), (.ref 24), (.type "ValueError"), (.type "Exception"), (.type "BaseException"), (.type "object")], 120, (.ofString "Nothing"), true, [], [], false, none, false⟩, #[(some (.ref 112)), none, (some (.str (.ofString "Nothing") 319)), (some (.str (.ofString "Nothing") 327)), (some (.builtin "ValueError.__new__")), (some (.bool true))]⟩) ::
  (nat_lit 127, ⟨(.type "code"), none, .fields #[(.str (.ofString "is_name") 343), (.str (.ofString "is_name") 344), (.str (.ofString "/claim/cut.py") 345), (.int (24) 0), (.int (1) 0), (.int (0) 0), (.int (0) 0), (.int (3) 0), (.ref 124), (.bool true), (.int (181) 0), (.ref 125), .none, .none, .none, (.ref 126), (.int (346) 0), (.int (24) 0), (.str (.ofString "/claim/cut.py") 347)], #[]⟩) ::
  (nat_lit 128, kF (top 14) (.ofString "is_name") (.ofString "is_name") .none .none .none (.str (.ofString "kinnames.books") 335) none (.ref 127) .none (.type "function") none #[]) ::
  (nat_lit 132, ⟨(.type "code"), none, .fields #[(.str (.ofString "is_book") 349), (.str (.ofString "is_book") 350), (.str (.ofString "/claim/cut.py") 351), (.int (28) 0), (.int (1) 0), (.int (0) 0), (.int (0) 0), (.int (3) 0), (.ref 129), (.bool true), (.int (181) 0), (.ref 130), .none, .none, .none, (.ref 131), (.int (352) 0), (.int (28) 0), (.str (.ofString "/claim/cut.py") 353)], #[]⟩) ::
  (nat_lit 133, kF (top 15) (.ofString "is_book") (.ofString "is_book") .none .none .none (.str (.ofString "kinnames.books") 335) none (.ref 132) .none (.type "function") none #[]) ::
  (nat_lit 139, ⟨(.type "code"), none, .fields #[(.str (.ofString "is_whole") 355), (.str (.ofString "is_whole") 356), (.str (.ofString "/claim/cut.py") 357), (.int (32) 0), (.int (3) 0), (.int (0) 0), (.int (0) 0), (.int (3) 0), (.ref 134), (.bool true), (.int (181) 0), (.ref 135), .none, (.ref 136), (.ref 137), (.ref 138), (.int (361) 0), (.int (32) 0), (.str (.ofString "/claim/cut.py") 362)], #[]⟩) ::
  (nat_lit 140, kF (top 16) (.ofString "is_whole") (.ofString "is_whole") .none .none .none (.str (.ofString "kinnames.books") 335) none (.ref 139) .none (.type "function") none #[]) ::
  (nat_lit 144, ⟨(.type "code"), none, .fields #[(.str (.ofString "is_rising") 364), (.str (.ofString "is_rising") 365), (.str (.ofString "/claim/cut.py") 366), (.int (36) 0), (.int (1) 0), (.int (0) 0), (.int (0) 0), (.int (3) 0), (.ref 141), (.bool true), (.int (181) 0), (.ref 142), .none, .none, .none, (.ref 143), (.int (367) 0), (.int (36) 0), (.str (.ofString "/claim/cut.py") 368)], #[]⟩) ::
  (nat_lit 145, kF (top 17) (.ofString "is_rising") (.ofString "is_rising") .none .none .none (.str (.ofString "kinnames.books") 335) none (.ref 144) .none (.type "function") none #[]) ::
  (nat_lit 151, ⟨(.type "code"), none, .fields #[(.str (.ofString "need_book") 370), (.str (.ofString "need_book") 371), (.str (.ofString "/claim/cut.py") 372), (.int (38) 0), (.int (1) 0), (.int (0) 0), (.int (0) 0), (.int (3) 0), (.ref 146), (.bool true), (.int (181) 0), (.ref 147), .none, (.ref 148), (.ref 149), (.ref 150), (.int (374) 0), (.int (38) 0), (.str (.ofString "/claim/cut.py") 375)], #[]⟩) ::
  (nat_lit 152, kF (top 18) (.ofString "need_book") (.ofString "need_book") .none .none .none (.str (.ofString "kinnames.books") 335) none (.ref 151) .none (.type "function") none #[]) ::
  (nat_lit 158, ⟨(.type "code"), none, .fields #[(.str (.ofString "need_name") 377), (.str (.ofString "need_name") 378), (.str (.ofString "/claim/cut.py") 379), (.int (41) 0), (.int (1) 0), (.int (0) 0), (.int (0) 0), (.int (3) 0), (.ref 153), (.bool true), (.int (181) 0), (.ref 154), .none, (.ref 155), (.ref 156), (.ref 157), (.int (381) 0), (.int (41) 0), (.str (.ofString "/claim/cut.py") 382)], #[]⟩) ::
  (nat_lit 159, kF (top 19) (.ofString "need_name") (.ofString "need_name") .none .none .none (.str (.ofString "kinnames.books") 335) none (.ref 158) .none (.type "function") none #[]) ::
  (nat_lit 165, ⟨(.type "code"), none, .fields #[(.str (.ofString "is_edge") 404), (.str (.ofString "is_edge") 405), (.str (.ofString "/claim/cut.py") 406), (.int (54) 0), (.int (1) 0), (.int (0) 0), (.int (0) 0), (.int (3) 0), (.ref 160), (.bool true), (.int (181) 0), (.ref 161), .none, (.ref 162), (.ref 163), (.ref 164), (.int (408) 0), (.int (54) 0), (.str (.ofString "/claim/cut.py") 409)], #[]⟩) ::
  (nat_lit 166, kF (top 30) (.ofString "is_edge") (.ofString "is_edge") .none .none .none (.str (.ofString "kinnames.wishes") 384) none (.ref 165) .none (.type "function") none #[]) ::
  (nat_lit 170, ⟨(.type "code"), none, .fields #[(.str (.ofString "is_barred") 411), (.str (.ofString "is_barred") 412), (.str (.ofString "/claim/cut.py") 413), (.int (56) 0), (.int (1) 0), (.int (0) 0), (.int (0) 0), (.int (3) 0), (.ref 167), (.bool true), (.int (181) 0), (.ref 168), .none, .none, .none, (.ref 169), (.int (414) 0), (.int (56) 0), (.str (.ofString "/claim/cut.py") 415)], #[]⟩) ::
  (nat_lit 171, kF (top 31) (.ofString "is_barred") (.ofString "is_barred") .none .none .none (.str (.ofString "kinnames.wishes") 384) none (.ref 170) .none (.type "function") none #[]) ::
  (nat_lit 177, ⟨(.type "code"), none, .fields #[(.str (.ofString "is_wish") 417), (.str (.ofString "is_wish") 418), (.str (.ofString "/claim/cut.py") 419), (.int (60) 0), (.int (1) 0), (.int (0) 0), (.int (0) 0), (.int (3) 0), (.ref 172), (.bool true), (.int (181) 0), (.ref 173), .none, (.ref 174), (.ref 175), (.ref 176), (.int (421) 0), (.int (60) 0), (.str (.ofString "/claim/cut.py") 422)], #[]⟩) ::
  (nat_lit 178, kF (top 32) (.ofString "is_wish") (.ofString "is_wish") .none .none .none (.str (.ofString "kinnames.wishes") 384) none (.ref 177) .none (.type "function") none #[]) ::
  (nat_lit 184, ⟨(.type "code"), none, .fields #[(.str (.ofString "need_wish") 424), (.str (.ofString "need_wish") 425), (.str (.ofString "/claim/cut.py") 426), (.int (68) 0), (.int (1) 0), (.int (0) 0), (.int (0) 0), (.int (3) 0), (.ref 179), (.bool true), (.int (181) 0), (.ref 180), .none, (.ref 181), (.ref 182), (.ref 183), (.int (428) 0), (.int (68) 0), (.str (.ofString "/claim/cut.py") 429)], #[]⟩) ::
  (nat_lit 185, kF (top 33) (.ofString "need_wish") (.ofString "need_wish") .none .none .none (.str (.ofString "kinnames.wishes") 384) none (.ref 184) .none (.type "function") none #[]) ::
  (nat_lit 191, ⟨(.type "code"), none, .fields #[(.str (.ofString "has_form") 431), (.str (.ofString "has_form") 432), (.str (.ofString "/claim/cut.py") 433), (.int (71) 0), (.int (2) 0), (.int (0) 0), (.int (0) 0), (.int (3) 0), (.ref 186), (.bool true), (.int (181) 0), (.ref 187), .none, (.ref 188), (.ref 189), (.ref 190), (.int (436) 0), (.int (71) 0), (.str (.ofString "/claim/cut.py") 437)], #[]⟩) ::
  (nat_lit 192, kF (top 34) (.ofString "has_form") (.ofString "has_form") .none .none .none (.str (.ofString "kinnames.wishes") 384) none (.ref 191) .none (.type "function") none #[]) ::
  (nat_lit 198, ⟨(.type "code"), none, .fields #[(.str (.ofString "left_out") 439), (.str (.ofString "left_out") 440), (.str (.ofString "/claim/cut.py") 441), (.int (75) 0), (.int (2) 0), (.int (0) 0), (.int (0) 0), (.int (3) 0), (.ref 193), (.bool true), (.int (181) 0), (.ref 194), .none, (.ref 195), (.ref 196), (.ref 197), (.int (444) 0), (.int (75) 0), (.str (.ofString "/claim/cut.py") 445)], #[]⟩) ::
  (nat_lit 199, kF (top 35) (.ofString "left_out") (.ofString "left_out") .none .none .none (.str (.ofString "kinnames.wishes") 384) none (.ref 198) .none (.type "function") none #[]) ::
  (nat_lit 205, ⟨(.type "code"), none, .fields #[(.str (.ofString "fits") 447), (.str (.ofString "fits") 448), (.str (.ofString "/claim/cut.py") 449), (.int (79) 0), (.int (3) 0), (.int (0) 0), (.int (0) 0), (.int (3) 0), (.ref 200), (.bool true), (.int (181) 0), (.ref 201), .none, (.ref 202), (.ref 203), (.ref 204), (.int (453) 0), (.int (79) 0), (.str (.ofString "/claim/cut.py") 454)], #[]⟩) ::
  (nat_lit 206, kF (top 36) (.ofString "fits") (.ofString "fits") .none .none .none (.str (.ofString "kinnames.wishes") 384) none (.ref 205) .none (.type "function") none #[]) ::
  (nat_lit 212, ⟨(.type "code"), none, .fields #[(.str (.ofString "_law_cell") 458), (.str (.ofString "_law_cell") 459), (.str (.ofString "/claim/cut.py") 460), (.int (85) 0), (.int (2) 0), (.int (0) 0), (.int (0) 0), (.int (3) 0), (.ref 207), (.bool true), (.int (181) 0), (.ref 208), .none, (.ref 209), (.ref 210), (.ref 211), (.int (463) 0), (.int (85) 0), (.str (.ofString "/claim/cut.py") 464)], #[]⟩) ::
  (nat_lit 213, kF (top 38) (.ofString "_law_cell") (.ofString "_law_cell") .none .none .none (.str (.ofString "law_kinnames_k30_wishes") 456) none (.ref 212) .none (.type "function") none #[]) ::
  (nat_lit 219, ⟨(.type "code"), none, .fields #[(.str (.ofString "_law_drawn") 466), (.str (.ofString "_law_drawn") 467), (.str (.ofString "/claim/cut.py") 468), (.int (89) 0), (.int (3) 0), (.int (0) 0), (.int (0) 0), (.int (3) 0), (.ref 214), (.bool true), (.int (181) 0), (.ref 215), .none, (.ref 216), (.ref 217), (.ref 218), (.int (473) 0), (.int (89) 0), (.str (.ofString "/claim/cut.py") 474)], #[]⟩) ::
  (nat_lit 220, kF (top 39) (.ofString "_law_drawn") (.ofString "_law_drawn") .none .none .none (.str (.ofString "law_kinnames_k30_wishes") 456) none (.ref 219) .none (.type "function") none #[]) ::
  (nat_lit 224, ⟨(.type "code"), none, .fields #[(.str (.ofString "_law_name") 476), (.str (.ofString "_law_name") 477), (.str (.ofString "/claim/cut.py") 478), (.int (93) 0), (.int (3) 0), (.int (0) 0), (.int (0) 0), (.int (3) 0), (.ref 221), (.bool true), (.int (181) 0), (.ref 222), .none, .none, .none, (.ref 223), (.int (479) 0), (.int (93) 0), (.str (.ofString "/claim/cut.py") 480)], #[]⟩) ::
  (nat_lit 225, kF (top 40) (.ofString "_law_name") (.ofString "_law_name") .none .none .none (.str (.ofString "law_kinnames_k30_wishes") 456) none (.ref 224) .none (.type "function") none #[]) ::
  (nat_lit 231, ⟨(.type "code"), none, .fields #[(.str (.ofString "_law_book") 482), (.str (.ofString "_law_book") 483), (.str (.ofString "/claim/cut.py") 484), (.int (97) 0), (.int (4) 0), (.int (0) 0), (.int (0) 0), (.int (3) 0), (.ref 226), (.bool true), (.int (181) 0), (.ref 227), .none, (.ref 228), (.ref 229), (.ref 230), (.int (491) 0), (.int (97) 0), (.str (.ofString "/claim/cut.py") 492)], #[]⟩) ::
  (nat_lit 232, kF (top 41) (.ofString "_law_book") (.ofString "_law_book") .none .none .none (.str (.ofString "law_kinnames_k30_wishes") 456) none (.ref 231) .none (.type "function") none #[]) ::
  (nat_lit 238, ⟨(.type "code"), none, .fields #[(.str (.ofString "_law_wish") 494), (.str (.ofString "_law_wish") 495), (.str (.ofString "/claim/cut.py") 496), (.int (102) 0), (.int (2) 0), (.int (0) 0), (.int (0) 0), (.int (3) 0), (.ref 233), (.bool true), (.int (181) 0), (.ref 234), .none, (.ref 235), (.ref 236), (.ref 237), (.int (506) 0), (.int (102) 0), (.str (.ofString "/claim/cut.py") 507)], #[]⟩) ::
  (nat_lit 239, kF (top 42) (.ofString "_law_wish") (.ofString "_law_wish") .none .none .none (.str (.ofString "law_kinnames_k30_wishes") 456) none (.ref 238) .none (.type "function") none #[]) ::
  (nat_lit 245, ⟨(.type "code"), none, .fields #[(.str (.ofString "_law_fits") 509), (.str (.ofString "_law_fits") 510), (.str (.ofString "/claim/cut.py") 511), (.int (112) 0), (.int (3) 0), (.int (0) 0), (.int (0) 0), (.int (3) 0), (.ref 240), (.bool true), (.int (181) 0), (.ref 241), .none, (.ref 242), (.ref 243), (.ref 244), (.int (515) 0), (.int (112) 0), (.str (.ofString "/claim/cut.py") 516)], #[]⟩) ::
  (nat_lit 246, kF (top 43) (.ofString "_law_fits") (.ofString "_law_fits") .none .none .none (.str (.ofString "law_kinnames_k30_wishes") 456) none (.ref 245) .none (.type "function") none #[]) ::
  (nat_lit 252, ⟨(.type "code"), none, .fields #[(.str (.ofString "_law_refused") 518), (.str (.ofString "_law_refused") 519), (.str (.ofString "/claim/cut.py") 520), (.int (118) 0), (.int (1) 0), (.int (0) 0), (.int (0) 0), (.int (3) 0), (.ref 247), (.bool true), (.int (181) 0), (.ref 248), .none, (.ref 249), (.ref 250), (.ref 251), (.int (523) 0), (.int (118) 0), (.str (.ofString "/claim/cut.py") 524)], #[]⟩) ::
  (nat_lit 253, kF (top 44) (.ofString "_law_refused") (.ofString "_law_refused") .none .none .none (.str (.ofString "law_kinnames_k30_wishes") 456) none (.ref 252) .none (.type "function") none #[]) ::
  (nat_lit 259, ⟨(.type "code"), none, .fields #[(.str (.ofString "_law_told") 526), (.str (.ofString "_law_told") 527), (.str (.ofString "/claim/cut.py") 528), (.int (125) 0), (.int (3) 0), (.int (0) 0), (.int (0) 0), (.int (3) 0), (.ref 254), (.bool true), (.int (181) 0), (.ref 255), .none, (.ref 256), (.ref 257), (.ref 258), (.int (533) 0), (.int (125) 0), (.str (.ofString "/claim/cut.py") 534)], #[]⟩) ::
  (nat_lit 260, kF (top 45) (.ofString "_law_told") (.ofString "_law_told") .none .none .none (.str (.ofString "law_kinnames_k30_wishes") 456) none (.ref 259) .none (.type "function") none #[]) ::
  (nat_lit 264, ⟨(.type "code"), none, .fields #[(.str (.ofString "_law_letters") 536), (.str (.ofString "_law_letters") 537), (.str (.ofString "/claim/cut.py") 538), (.int (130) 0), (.int (3) 0), (.int (0) 0), (.int (0) 0), (.int (3) 0), (.ref 261), (.bool true), (.int (181) 0), (.ref 262), .none, .none, .none, (.ref 263), (.int (539) 0), (.int (130) 0), (.str (.ofString "/claim/cut.py") 540)], #[]⟩) ::
  (nat_lit 265, kF (top 46) (.ofString "_law_letters") (.ofString "_law_letters") .none .none .none (.str (.ofString "law_kinnames_k30_wishes") 456) none (.ref 264) .none (.type "function") none #[]) ::
  (nat_lit 269, ⟨(.type "code"), none, .fields #[(.str (.ofString "_law_is_wish") 542), (.str (.ofString "_law_is_wish") 543), (.str (.ofString "/claim/cut.py") 544), (.int (134) 0), (.int (1) 0), (.int (0) 0), (.int (0) 0), (.int (3) 0), (.ref 266), (.bool true), (.int (181) 0), (.ref 267), .none, .none, .none, (.ref 268), (.int (545) 0), (.int (134) 0), (.str (.ofString "/claim/cut.py") 546)], #[]⟩) ::
  (nat_lit 270, kF (top 47) (.ofString "_law_is_wish") (.ofString "_law_is_wish") .none .none .none (.str (.ofString "law_kinnames_k30_wishes") 456) none (.ref 269) .none (.type "function") none #[]) ::
  (nat_lit 276, ⟨(.type "code"), none, .fields #[(.str (.ofString "law") 548), (.str (.ofString "law") 549), (.str (.ofString "/claim/cut.py") 550), (.int (147) 0), (.int (1) 0), (.int (0) 0), (.int (0) 0), (.int (3) 0), (.ref 271), (.bool true), (.int (181) 0), (.ref 272), .none, (.ref 273), (.ref 274), (.ref 275), (.int (565) 0), (.int (147) 0), (.str (.ofString "/claim/cut.py") 566)], #[]⟩) ::
  (nat_lit 277, kF (top 48) (.ofString "law") (.ofString "law") .none .none .none (.str (.ofString "law_kinnames_k30_wishes") 456) none (.ref 276) .none (.type "function") none #[]) :: []
def kas : List Addr := [2, 3, 23, 24, 25, 36, 37, 48, 49, 60, 61, 72, 73, 84, 85, 96, 97, 108, 109, 120, 121, 127, 128, 132, 133, 139, 140, 144, 145, 151, 152, 158, 159, 165, 166, 170, 171, 177, 178, 184, 185, 191, 192, 198, 199, 205, 206, 212, 213, 219, 220, 224, 225, 231, 232, 238, 239, 245, 246, 252, 253, 259, 260, 264, 265, 269, 270, 276, 277]
def kq : Program := view PySem.Challenge.pw_kinnames_k30_wishes [1, 2, 3, 4, 5, 6, 7, 8, 9, 11, 12, 13, 14, 15, 16, 17, 18, 19, 21, 22, 23, 24, 25, 26, 27, 28, 29, 30, 31, 32, 33, 34, 35, 36, 38, 39, 40, 41, 42, 43, 44, 45, 46, 47, 48]
def klo : List Str := []
theorem kas_e : ∀ P, kas = (kfr P).map (·.1) := fun _ => by kernel_rfl
noncomputable def hlL (w : World) := (openEnds treeTable PySem.Challenge.pw_kinnames_k30_wishes w 5628).map (fun s => (openSeen kq klo (importedModules PySem.Challenge.pw_kinnames_k30_wishes.main.body) (fun s => xlAt kq [] s && recOk [] s) true s, kas.map s.heap.get?))
noncomputable def hlR (w : World) := some (openGood kq klo, (kfr w.params).map fun p => some p.2)
theorem hlL_e : hlL = hlL := rfl
theorem hlR_e : hlR = hlR := rfl
end Kn
name_quick hlQ for Kn.hlL by Kn.hlL_e
name_quick hrQ for Kn.hlR by Kn.hlR_e
theorem Kn.hl_q (w : World) : PySem.W.Fast.hlQ w = PySem.W.Fast.hrQ w := by kernel_rfl
theorem Kn.hl : LeftO PySem.Challenge.pw_kinnames_k30_wishes Kn.kq Kn.klo (fun s => xlAt Kn.kq [] s && recOk [] s) (Hook.obs (kHook Kn.kfr Kn.kas Kn.kas_e)) (Hook.val (kHook Kn.kfr Kn.kas Kn.kas_e)) 5628 := fun w =>
  ((congrFun PySem.W.Fast.hlQ_eq w).trans (Kn.hl_q w)).trans (congrFun PySem.W.Fast.hrQ_eq w).symm
set_option maxRecDepth 100000 in
set_option maxHeartbeats 0 in
theorem PySem.Challenge.cw_kinnames_k30_wishes_holds : PySem.Challenge.rw_kinnames_k30_wishes.Holds := by
  w_on; o_law
  refine PySem.W.holds_open (q := Kn.kq) (loose := Kn.klo) (Xt := fun s => xlAt Kn.kq [] s && recOk [] s) (XP := XL Kn.kq []) (Yf := Hook.obs (kHook Kn.kfr Kn.kas Kn.kas_e)) (Ya := Hook.val (kHook Kn.kfr Kn.kas Kn.kas_e)) (YP := Hook.says (kHook Kn.kfr Kn.kas Kn.kas_e)) (N := 5628) Kn.hl (Hook.of (kHook Kn.kfr Kn.kas Kn.kas_e)) (Hook.keeps (kHook Kn.kfr Kn.kas Kn.kas_e)) (fun s e => xl_of s (Bool.and_eq_true_iff.mp e).1) XL.keeps (by rfl) (by rfl) (by rfl) (fun s e => recFacts_of (Bool.and_eq_true_iff.mp e).2) (by rfl) (by first | assumption | decide +kernel) (by decide +kernel) ⟨rfl, rfl, rfl, rfl, rfl, by decide +kernel⟩ ?hw ?hc
  (case hw => w_witness2)
  k_fill
  refine Kn.walk (l := PySem.Challenge.rw_kinnames_k30_wishes) rfl rfl (fun w h Y => PySem.W.kIn_of Y) ?F
  case F =>
    intro w mg fa h KX G hmg
    refine' Kn.all_mk KX G hmg ?T ?a4 ?l4 ?c4 ?k4
    (case T =>
      refine' ⟨?is_name, ?is_book, ?is_whole, ?is_rising, ?need_book, ?need_name, ?is_edge, ?is_barred, ?is_wish, ?need_wish, ?form, ?out, ?fits, ?cell, ?drawn, ?lname, ?lbook, ?lwish, ?lfits, ?lrefused, ?ltold, ?llet, ?liswish, ?letters, ?ml, ?mn, ?w0, ?w1, ?w2, ?w3, ?w4, ?w5, ?w6, ?w7, ?w8, ?ib, ?errs, ?kitf, ?kitb, ?zlen, ?zrange, ?zall, ?zisinstance, ?zstr, ?ztuple, ?zint, ?zbool, ?zsorted, ?zsum, ?zmin, ?zmax, ?zlist, ?zset, ?zzip, ?zenumerate, ?zValueError⟩
      (case is_name => refine' Kn.has_mk _ (fun fd F => F.binds fun _ _ _ _ _ _ us hl => match us, hl with | [_], _ => rfl) ?kna ?knl ?knc ?knk; (case kna => k_is); (case knl => k_is); (case knc => k_is); (case knk => k_is))
      (case is_book => refine' Kn.has_mk _ (fun fd F => F.binds fun _ _ _ _ _ _ us hl => match us, hl with | [_], _ => rfl) ?kna ?knl ?knc ?knk; (case kna => k_is); (case knl => k_is); (case knc => k_is); (case knk => k_is))
      (case is_whole => refine' Kn.has_mk _ (fun fd F => F.binds fun _ _ _ _ _ _ us hl => match us, hl with | [_, _, _], _ => rfl) ?kna ?knl ?knc ?knk; (case kna => k_is); (case knl => k_is); (case knc => k_is); (case knk => k_is))
      (case is_rising => refine' Kn.has_mk _ (fun fd F => F.binds fun _ _ _ _ _ _ us hl => match us, hl with | [_], _ => rfl) ?kna ?knl ?knc ?knk; (case kna => k_is); (case knl => k_is); (case knc => k_is); (case knk => k_is))
      (case need_book => refine' Kn.has_mk _ (fun fd F => F.binds fun _ _ _ _ _ _ us hl => match us, hl with | [_], _ => rfl) ?kna ?knl ?knc ?knk; (case kna => k_is); (case knl => k_is); (case knc => k_is); (case knk => k_is))
      (case need_name => refine' Kn.has_mk _ (fun fd F => F.binds fun _ _ _ _ _ _ us hl => match us, hl with | [_], _ => rfl) ?kna ?knl ?knc ?knk; (case kna => k_is); (case knl => k_is); (case knc => k_is); (case knk => k_is))
      (case is_edge => refine' Kn.has_mk _ (fun fd F => F.binds fun _ _ _ _ _ _ us hl => match us, hl with | [_], _ => rfl) ?kna ?knl ?knc ?knk; (case kna => k_is); (case knl => k_is); (case knc => k_is); (case knk => k_is))
      (case is_barred => refine' Kn.has_mk _ (fun fd F => F.binds fun _ _ _ _ _ _ us hl => match us, hl with | [_], _ => rfl) ?kna ?knl ?knc ?knk; (case kna => k_is); (case knl => k_is); (case knc => k_is); (case knk => k_is))
      (case is_wish => refine' Kn.has_mk _ (fun fd F => F.binds fun _ _ _ _ _ _ us hl => match us, hl with | [_], _ => rfl) ?kna ?knl ?knc ?knk; (case kna => k_is); (case knl => k_is); (case knc => k_is); (case knk => k_is))
      (case need_wish => refine' Kn.has_mk _ (fun fd F => F.binds fun _ _ _ _ _ _ us hl => match us, hl with | [_], _ => rfl) ?kna ?knl ?knc ?knk; (case kna => k_is); (case knl => k_is); (case knc => k_is); (case knk => k_is))
      (case form => refine' Kn.has_mk _ (fun fd F => F.binds fun _ _ _ _ _ _ us hl => match us, hl with | [_, _], _ => rfl) ?kna ?knl ?knc ?knk; (case kna => k_is); (case knl => k_is); (case knc => k_is); (case knk => k_is))
      (case out => refine' Kn.has_mk _ (fun fd F => F.binds fun _ _ _ _ _ _ us hl => match us, hl with | [_, _], _ => rfl) ?kna ?knl ?knc ?knk; (case kna => k_is); (case knl => k_is); (case knc => k_is); (case knk => k_is))
      (case fits => refine' Kn.has_mk _ (fun fd F => F.binds fun _ _ _ _ _ _ us hl => match us, hl with | [_, _, _], _ => rfl) ?kna ?knl ?knc ?knk; (case kna => k_is); (case knl => k_is); (case knc => k_is); (case knk => k_is))
      (case cell => refine' Kn.has_mk _ (fun fd F => F.binds fun _ _ _ _ _ _ us hl => match us, hl with | [_, _], _ => rfl) ?kna ?knl ?knc ?knk; (case kna => k_is); (case knl => k_is); (case knc => k_is); (case knk => k_is))
      (case drawn => refine' Kn.has_mk _ (fun fd F => F.binds fun _ _ _ _ _ _ us hl => match us, hl with | [_, _, _], _ => rfl) ?kna ?knl ?knc ?knk; (case kna => k_is); (case knl => k_is); (case knc => k_is); (case knk => k_is))
      (case lname => refine' Kn.has_mk _ (fun fd F => F.binds fun _ _ _ _ _ _ us hl => match us, hl with | [_, _, _], _ => rfl) ?kna ?knl ?knc ?knk; (case kna => k_is); (case knl => k_is); (case knc => k_is); (case knk => k_is))
      (case lbook => refine' Kn.has_mk _ (fun fd F => F.binds fun _ _ _ _ _ _ us hl => match us, hl with | [_, _, _, _], _ => rfl) ?kna ?knl ?knc ?knk; (case kna => k_is); (case knl => k_is); (case knc => k_is); (case knk => k_is))
      (case lwish => refine' Kn.has_mk _ (fun fd F => F.binds fun _ _ _ _ _ _ us hl => match us, hl with | [_, _], _ => rfl) ?kna ?knl ?knc ?knk; (case kna => k_is); (case knl => k_is); (case knc => k_is); (case knk => k_is))
      (case lfits => refine' Kn.has_mk _ (fun fd F => F.binds fun _ _ _ _ _ _ us hl => match us, hl with | [_, _, _], _ => rfl) ?kna ?knl ?knc ?knk; (case kna => k_is); (case knl => k_is); (case knc => k_is); (case knk => k_is))
      (case lrefused => refine' Kn.has_mk _ (fun fd F => F.binds fun _ _ _ _ _ _ us hl => match us, hl with | [_], _ => rfl) ?kna ?knl ?knc ?knk; (case kna => k_is); (case knl => k_is); (case knc => k_is); (case knk => k_is))
      (case ltold => refine' Kn.has_mk _ (fun fd F => F.binds fun _ _ _ _ _ _ us hl => match us, hl with | [_, _, _], _ => rfl) ?kna ?knl ?knc ?knk; (case kna => k_is); (case knl => k_is); (case knc => k_is); (case knk => k_is))
      (case llet => refine' Kn.has_mk _ (fun fd F => F.binds fun _ _ _ _ _ _ us hl => match us, hl with | [_, _, _], _ => rfl) ?kna ?knl ?knc ?knk; (case kna => k_is); (case knl => k_is); (case knc => k_is); (case knk => k_is))
      (case liswish => refine' Kn.has_mk _ (fun fd F => F.binds fun _ _ _ _ _ _ us hl => match us, hl with | [_], _ => rfl) ?kna ?knl ?knc ?knk; (case kna => k_is); (case knl => k_is); (case knc => k_is); (case knk => k_is))
      (case letters => refine' Kn.lets_mk ?knq; (case knq => k_is))
      (case ml => refine' Kn.int_mk ?knq; (case knq => k_is))
      (case mn => refine' Kn.int_mk ?knq; (case knq => k_is))
      (case w0 => refine' Kn.int_mk ?knq; (case knq => k_is))
      (case w1 => refine' Kn.int_mk ?knq; (case knq => k_is))
      (case w2 => refine' Kn.int_mk ?knq; (case knq => k_is))
      (case w3 => refine' Kn.int_mk ?knq; (case knq => k_is))
      (case w4 => refine' Kn.int_mk ?knq; (case knq => k_is))
      (case w5 => refine' Kn.int_mk ?knq; (case knq => k_is))
      (case w6 => refine' Kn.int_mk ?knq; (case knq => k_is))
      (case w7 => refine' Kn.int_mk ?knq; (case knq => k_is))
      (case w8 => refine' Kn.int_mk ?knq; (case knq => k_is))
      (case ib => first | rfl | kernel_rfl | decide +kernel)
      (case errs => refine' Kn.errs_top ?e0 ?e1 ?e2 ?e3 ?e4 ?e5 ?e6 ?e7 ?eL ?eK; (case e0 => k_is); (case e1 => k_is); (case e2 => k_is); (case e3 => k_is); (case e4 => k_is); (case e5 => k_is); (case e6 => k_is); (case e7 => k_is); (case eL => k_is); (case eK => first | rfl | kernel_rfl | decide +kernel))
      (case kitf => constructor <;> first | rfl | kernel_rfl | decide +kernel)
      (case kitb => constructor <;> first | rfl | kernel_rfl | decide +kernel)
      (case zlen => k_is)
      (case zrange => k_is)
      (case zall => k_is)
      (case zisinstance => k_is)
      (case zstr => k_is)
      (case ztuple => k_is)
      (case zint => k_is)
      (case zbool => k_is)
      (case zsorted => k_is)
      (case zsum => k_is)
      (case zmin => k_is)
      (case zmax => k_is)
      (case zlist => k_is)
      (case zset => k_is)
      (case zzip => k_is)
      (case zenumerate => k_is)
      (case zValueError => k_is))
    (case a4 => k_is); (case l4 => k_is); (case c4 => k_is); (case k4 => k_is)
end
