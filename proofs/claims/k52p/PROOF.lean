import PyProof.Rows.All
import Wide.All
import OpenK.AllK
import Wide.FinOn
import Lean
import PyProof.EqAt
import PyProof.EqKinds
import PyProof.TupleCall
import PyProof.CompFree
import KE.KSortAsk
import KE.KSortTup
import KE.KRevSl
import PyProof.AttrMissSeq
import KE.KDictOf
import PyProof.StationsW
import PyProof.Rows.Catch
import PyProof.ExcClass3
import PyProof.ExcBaseAll.ValueError
import OpenK.KOwn
import KE.KIsAll
import PyProof.ListMulRoad
import PyProof.StrOps2
import PyProof.FactsAll.tuple_2
import PyProof.ZipIter
import PyProof.Draws
import PyProof.TupleIter
import PyProof.Rows.ZipGen
import PyProof.WalksMore
import PyProof.Rows.InDataRows
import KE.KxText
import PySem.Challenge.RW_kinnames_k52_whole_shows
section
set_option Elab.async false
set_option linter.all false
set_option maxRecDepth 100000
namespace L2
open PySem PySem.Spec PyProof.Rows
abbrev Key := Sum Int Str
def keyIs : Key → Value → Bool
  | .inl k, v => Value.isInt k v
  | .inr x, v => Value.isStrOf x v
def keyH (w : World) : Key → Int
  | .inl k => hashInt k
  | .inr x => hashStr w x
theorem keyIs_shape : ∀ {k : Key} {v : Value}, keyIs k v = true → (∃ i t, k = Sum.inl i ∧ v = Value.int i t) ∨ (∃ x t, k = Sum.inr x ∧ v = Value.str x t)
  | .inl i, v, h => by
    obtain ⟨t, e⟩ := Value.isInt_shape (k := i) (v := v) h
    exact .inl ⟨i, t, rfl, e⟩
  | .inr x, v, h => by
    obtain ⟨t, e⟩ := Value.isStrOf_shape (x := x) (v := v) h
    exact .inr ⟨x, t, rfl, e⟩
theorem keyIs_int (i : Int) (t : Tok) : keyIs (.inl i) (.int i t) = true := by simp [keyIs, Value.isInt]
theorem keyIs_str (x : Str) (t : Tok) : keyIs (.inr x) (.str x t) = true := by simp [keyIs, Value.isStrOf]
theorem key_ll (a b : Int) : decide ((Sum.inl a : Key) = Sum.inl b) = (a == b) := by
  by_cases e : a = b
  · subst e; simp
  · have h : ¬ (Sum.inl a : Key) = Sum.inl b := fun q => e (Sum.inl.inj q)
    rw [decide_eq_false h]
    exact (beq_eq_false_iff_ne.mpr e).symm
theorem key_rr (a b : Str) : decide ((Sum.inr a : Key) = Sum.inr b) = decide (a = b) := by
  by_cases e : a = b
  · subst e; simp
  · have h : ¬ (Sum.inr a : Key) = Sum.inr b := fun q => e (Sum.inr.inj q)
    rw [decide_eq_false h, decide_eq_false e]
theorem key_lr (a : Int) (b : Str) : decide ((Sum.inl a : Key) = Sum.inr b) = false := decide_eq_false (fun q => nomatch q)
theorem key_rl (a : Str) (b : Int) : decide ((Sum.inr a : Key) = Sum.inl b) = false := decide_eq_false (fun q => nomatch q)
def mixKind (prog : Program) (w : World) : PySem.KeyKind prog w Key where
  is := keyIs
  hash := keyH w
  inj := fun v a b ha hb => by
    rcases keyIs_shape ha with ⟨i, t, rfl, rfl⟩ | ⟨x, t, rfl, rfl⟩
    · rcases keyIs_shape hb with ⟨j, u, rfl, e⟩ | ⟨y, u, rfl, e⟩
      · injection e with e1 _; rw [e1]
      · exact nomatch e
    · rcases keyIs_shape hb with ⟨j, u, rfl, e⟩ | ⟨y, u, rfl, e⟩
      · exact nomatch e
      · injection e with e1 _; rw [e1]
  byValue := fun k v h => by
    rcases keyIs_shape h with ⟨i, t, rfl, rfl⟩ | ⟨x, t, rfl, rfl⟩ <;> rfl
  pyHash := fun hv h => by
    rcases keyIs_shape hv with ⟨i, t, rfl, rfl⟩ | ⟨x, t, rfl, rfl⟩
    · exact wpAny_pyHash_int h
    · exact wpAny_pyHash_str h
  eqBool := fun hu hv h => by
    rcases keyIs_shape hu with ⟨i, t, rfl, rfl⟩ | ⟨x, t, rfl, rfl⟩
    · rcases keyIs_shape hv with ⟨j, u, rfl, rfl⟩ | ⟨y, u, rfl, rfl⟩
      · rw [key_ll] at h; exact wpAny_eqBool_int h
      · rw [key_lr] at h; exact SeqAt.EqAt.int_str i t y u _ _ _ _ h
    · rcases keyIs_shape hv with ⟨j, u, rfl, rfl⟩ | ⟨y, u, rfl, rfl⟩
      · rw [key_rl] at h; exact SeqAt.EqAt.str_int x t j u _ _ _ _ h
      · rw [key_rr] at h; exact wpAny_eqBool_str h
  «strs» := fun k x t v h => by
    rcases keyIs_shape h with ⟨i, u, rfl, e⟩ | ⟨y, u, rfl, e⟩
    · exact nomatch e
    · injection e with e1 _
      subst e1
      cases v <;> rfl
theorem mixKind_int (prog : Program) (w : World) (i : Int) (t : Tok) : (mixKind prog w).is (.inl i) (.int i t) = true := keyIs_int i t
theorem mixKind_str (prog : Program) (w : World) (x : Str) (t : Tok) : (mixKind prog w).is (.inr x) (.str x t) = true := keyIs_str x t
end L2
namespace L2
open PySem PySem.Spec PyProof.Rows
inductive V where
  | non | bl (b : Bool) | int (i : Int) | str (x : Str) | byt (b : Array UInt8) | flt (b : UInt64) | ref (a : Addr) | ty (n : String)
  deriving DecidableEq
def RelV : V → Value → Prop
  | .non, u => u = Value.none
  | .bl b, u => u = Value.bool b
  | .int i, u => ∃ t, u = Value.int i t
  | .str x, u => ∃ t, u = Value.str x t
  | .byt b, u => ∃ t, u = Value.bytes b t
  | .flt b, u => ∃ t, u = Value.float b t
  | .ref a, u => u = Value.ref a
  | .ty n, u => u = Value.type n
abbrev Vals : List V → List Value → Prop := Paired RelV
theorem Vals.length {xs : List V} {us : List Value} (r : Vals xs us) : xs.length = us.length := Paired.length r
theorem Vals.get : ∀ {xs : List V} {us : List Value} {i : Nat} {x : V}, Vals xs us → xs[i]? = some x → ∃ u, us[i]? = some u ∧ RelV x u
  | _, _, _, _, .nil, e => by simp at e
  | _, _, 0, _, .cons r _, e => by simp at e; subst e; exact ⟨_, rfl, r⟩
  | _, _, i + 1, x, .cons _ t, e => by
    obtain ⟨u, h1, h2⟩ := Vals.get (i := i) (x := x) t (by simpa using e)
    exact ⟨u, by simpa using h1, h2⟩
theorem Vals.set {x : V} {u : Value} (r : RelV x u) : ∀ {xs : List V} {us : List Value} (i : Nat), Vals xs us → Vals (xs.set i x) (us.set i u)
  | _, _, _, .nil => .nil
  | _, _, 0, .cons _ t => .cons r t
  | _, _, i + 1, .cons q t => .cons q (Vals.set r i t)
theorem Vals.append : ∀ {xs ys : List V} {us ws : List Value}, Vals xs us → Vals ys ws → Vals (xs ++ ys) (us ++ ws)
  | _, _, _, _, .nil, s => s
  | _, _, _, _, .cons r t, s => .cons r (Vals.append t s)
theorem Vals.take : ∀ {xs : List V} {us : List Value} (n : Nat), Vals xs us → Vals (xs.take n) (us.take n)
  | _, _, 0, _ => .nil
  | _, _, _ + 1, .nil => .nil
  | _, _, n + 1, .cons r t => .cons r (Vals.take n t)
theorem Vals.drop : ∀ {xs : List V} {us : List Value} (n : Nat), Vals xs us → Vals (xs.drop n) (us.drop n)
  | _, _, 0, r => r
  | _, _, _ + 1, .nil => .nil
  | _, _, n + 1, .cons _ t => Vals.drop n t
def RelO : Option V → Option Value → Prop
  | some v, some u => RelV v u
  | none, none => True
  | _, _ => False
def KV {κ : Type} : List (κ × V) → List (κ × Value) → Prop := Paired fun (p : κ × V) (q : κ × Value) => p.1 = q.1 ∧ RelV p.2 q.2
def kV : Key → V
  | .inl i => .int i
  | .inr x => .str x
inductive HO where
  | lst (xs : List V)
  | tup (xs : List V)
  | dK (kvs : List (Key × V)) | dT (kvs : List (List Key × V))
  | set (S : Int → Bool) (n : Nat)
  | ins (C dx : Addr) (fs : List (Str × V))
  | own (x : Addr)
  | xd (fs : List (Str × V))
  | met (f x : Addr)
  | rng (lo hi : Int)
  | frz (o : Obj) (u : HO)
  | tbl (ps : Array Value)
  | ext (φ : Heap → Prop)
abbrev Hp := Addr → Option HO
def upd (H : Hp) (a : Addr) (o : HO) : Hp := fun b => if b = a then some o else H b
theorem upd_same {H : Hp} {a : Addr} {o : HO} : upd H a o a = some o := by unfold upd; rw [if_pos rfl]
theorem upd_ne {H : Hp} {a b : Addr} {o : HO} (h : b ≠ a) : upd H a o b = H b := by unfold upd; rw [if_neg h]
theorem ne_of {H : Hp} {a b : Addr} {o u : HO} (h : H a = some o) (h' : H b = some u) (d : o ≠ u) : a ≠ b := by
  intro e; subst e; rw [h] at h'; exact d (Option.some.inj h')
theorem ne_of_none {H : Hp} {a b : Addr} {o : HO} (h : H a = some o) (h' : H b = none) : a ≠ b := by
  intro e; subst e; rw [h] at h'; cases h'
section
variable (P : Program) (w : World)
def ObjOk (H : Hp) (h : Heap) (a : Addr) : HO → Prop
  | .lst xs => xs.length ≤ sizeLine ∧ ∃ (its : List Value) (n : Nat), Vals xs its ∧ h.get? a = some { cls := .type "list", data := .seq its.toArray n }
  | .tup xs => xs.length ≤ sizeLine ∧ ∃ its : List Value, Vals xs its ∧ IsTup h a its.toArray
  | .dK kvs => kvs.length ≤ sizeLine ∧ (a == sysModules) = false ∧ ∃ vs, KV kvs vs ∧ h.DictOf (mixKind P w) a vs
  | .dT kvs => kvs.length ≤ sizeLine ∧ (a == sysModules) = false ∧ ∃ xs : List (List Key × Addr × Value),
      Paired (fun (p : List Key × V) (q : List Key × Addr × Value) => p.1 = q.1 ∧ H q.2.1 = some (.tup (p.1.map kV)) ∧ RelV p.2 q.2.2) kvs xs ∧
      ∃ o es ep, h.get? a = some o ∧ o.ExactDict ∧ o.data = .dict es ep ∧ es.toList = xs.map (entryOfKey (tupleKind (mixKind P w))) ∧ (xs.map (·.1)).Nodup
  | .set S n => h.SetOf (intKind P w) a S n
  | .ins C dx fs => H dx = some (.own a) ∧ fs.length ≤ 1000 ∧ dx ≠ a ∧ h.get? a = some (PySem.W.instObj C dx) ∧
      ∃ mA, h.Ns1 dx mA ∧ (∀ f, RelO (fs.lookup f) (mA f)) ∧ PySem.Within mA (fs.map (·.1))
  | .own _ => ∃ o, h.get? a = some o
  | .xd fs => ∃ mA, h.Ns1 a mA ∧ ∀ f, RelO (fs.lookup f) (mA f)
  | .rng lo hi => ∃ t u v, h.get? a = some { cls := .type "range", data := .fields #[.int lo t, .int hi u, .int 1 v] }
  | .frz o u => h.get? a = some o ∧ ObjOk H h a u
  | .tbl ps => h.get? a = some { cls := .none, data := .fields ps }
  | .met f x => h.get? a = some (PySem.W.methodObj (.ref f) (.ref x))
  | .ext φ => φ h ∧ (∃ o, h.get? a = some o) ∧ ∀ h1 h2 : Heap, φ h1 → (∀ o, h1.get? a = some o → h2.get? a = some o) → φ h2
def HOk (H : Hp) (h : Heap) : Prop := ∀ a o, H a = some o → ObjOk P w H h a o
end
section
variable {P : Program} {w : World} {H H' : Hp} {h h' : Heap} {a : Addr} {o : HO}
theorem ObjOk.lt (x : ObjOk P w H h a o) : a < h.objs.size := by
  cases o with
  | lst xs => obtain ⟨_, _, _, _, e⟩ := x; exact Heap.lt_size e
  | tup xs => obtain ⟨_, _, _, p⟩ := x; exact p.lt
  | dK kvs => obtain ⟨_, _, _, _, o, _, _, e, _⟩ := x; exact Heap.lt_size e
  | dT kvs => obtain ⟨_, _, _, _, o, _, _, e, _⟩ := x; exact Heap.lt_size e
  | set S n => obtain ⟨o, _, _, _, e, _⟩ := x; exact Heap.lt_size e
  | ins C dx fs => obtain ⟨_, _, _, e, _⟩ := x; exact Heap.lt_size e
  | own y => obtain ⟨_, e⟩ := x; exact Heap.lt_size e
  | xd fs => obtain ⟨_, ⟨_, _, _, e, _⟩, _⟩ := x; exact Heap.lt_size e
  | rng lo hi => obtain ⟨_, _, _, e⟩ := x; exact Heap.lt_size e
  | frz ob u => obtain ⟨e, _⟩ := x; exact Heap.lt_size e
  | tbl ps => exact Heap.lt_size (show h.get? a = some _ from x)
  | met f y => exact Heap.lt_size (show h.get? a = some _ from x)
  | ext φ => obtain ⟨_, ⟨_, e⟩, _⟩ := x; exact Heap.lt_size e
theorem Paired.mapP {α β : Type} {F G : α → β → Prop} : ∀ {l₁ : List α} {l₂ : List β}, Paired F l₁ l₂ → (∀ a b, F a b → G a b) → Paired G l₁ l₂
  | _, _, .nil, _ => .nil
  | _, _, .cons r t, f => .cons (f _ _ r) (Paired.mapP t f)
theorem ObjOk.stay (x : ObjOk P w H h a o) (k : ∀ b u, (b = a ∨ H b = some (.own a)) → h.get? b = some u → h'.get? b = some u)
    (ho : ∀ b, H b = some (.own a) → H' b = some (.own a)) (ht : ∀ b xs, H b = some (.tup xs) → H' b = some (.tup xs)) : ObjOk P w H' h' a o := by
  induction o with
  | lst xs => obtain ⟨z, its, n, r, e⟩ := x; exact ⟨z, its, n, r, k _ _ (.inl rfl) e⟩
  | tup xs => obtain ⟨z, its, r, ob, e, c⟩ := x; exact ⟨z, its, r, ob, k _ _ (.inl rfl) e, c⟩
  | dK kvs => obtain ⟨z, y, vs, r, ob, es, ep, e, c⟩ := x; exact ⟨z, y, vs, r, ob, es, ep, k _ _ (.inl rfl) e, c⟩
  | dT kvs =>
    obtain ⟨z, y, xs, r, ob, es, ep, e, c⟩ := x
    exact ⟨z, y, xs, Paired.mapP r fun p q z => ⟨z.1, ht _ _ z.2.1, z.2.2⟩, ob, es, ep, k _ _ (.inl rfl) e, c⟩
  | set S n => obtain ⟨ob, es, ep, t, e, c⟩ := x; exact ⟨ob, es, ep, t, k _ _ (.inl rfl) e, c⟩
  | ins C dx fs =>
    obtain ⟨d, z, ne, e, mA, ⟨od, es, ep, e2, c⟩, r⟩ := x
    exact ⟨ho _ d, z, ne, k _ _ (.inl rfl) e, mA, ⟨od, es, ep, k _ _ (.inr d) e2, c⟩, r⟩
  | own y => obtain ⟨ob, e⟩ := x; exact ⟨ob, k _ _ (.inl rfl) e⟩
  | xd fs => obtain ⟨mA, ⟨od, es, ep, e, c⟩, r⟩ := x; exact ⟨mA, ⟨od, es, ep, k _ _ (.inl rfl) e, c⟩, r⟩
  | rng lo hi => obtain ⟨t, u, v, e⟩ := x; exact ⟨t, u, v, k _ _ (.inl rfl) e⟩
  | frz ob u ih => obtain ⟨e, q⟩ := x; exact ⟨k _ _ (.inl rfl) e, ih q⟩
  | tbl ps =>
    have e : h.get? a = some { cls := .none, data := .fields ps } := x
    show h'.get? a = some { cls := .none, data := .fields ps }
    exact k a _ (.inl rfl) e
  | met f y =>
    have e : h.get? a = some (PySem.W.methodObj (.ref f) (.ref y)) := x
    show h'.get? a = some (PySem.W.methodObj (.ref f) (.ref y))
    exact k a _ (.inl rfl) e
  | ext φ => obtain ⟨p, ⟨o, e⟩, st⟩ := x; exact ⟨st _ _ p fun o q => k _ _ (.inl rfl) q, ⟨o, k _ _ (.inl rfl) e⟩, st⟩
theorem HOk.lt (x : HOk P w H h) (e : H a = some o) : a < h.objs.size := (x a o e).lt
theorem HOk.fresh (x : HOk P w H h) (e : h.objs.size ≤ a) : H a = none := by
  cases q : H a with
  | none => rfl
  | some u => exact absurd (Nat.lt_of_lt_of_le (x.lt q) e) (Nat.lt_irrefl _)
theorem HOk.kept (x : HOk P w H h) (k : ∀ b u, h.get? b = some u → h'.get? b = some u) : HOk P w H h' := fun a o e =>
  (x a o e).stay (fun b u _ q => k b u q) (fun _ q => q) fun _ _ q => q
theorem HOk.laid (x : HOk P w H h) (k : ∀ b u, h.get? b = some u → h'.get? b = some u) (hp : h.objs.size ≤ a) (new : ObjOk P w (upd H a o) h' a o) : HOk P w (upd H a o) h' := fun b u e => by
  have hn := x.fresh hp
  by_cases hb : b = a
  · subst hb; rw [upd_same] at e; cases e; exact new
  · rw [upd_ne hb] at e
    exact (x b u e).stay (fun c v _ q => k c v q) (fun c q => by rw [upd_ne (ne_of_none q hn)]; exact q) fun c xs q => by rw [upd_ne (ne_of_none q hn)]; exact q
end
def Rd (H : Hp) (a : Addr) (u : HO) : Prop := H a = some u ∨ ∃ o, H a = some (.frz o u)
theorem Rd.of {H : Hp} {a : Addr} {u : HO} (h : H a = some u) : Rd H a u := .inl h
theorem Rd.ok {P : Program} {w : World} {H : Hp} {h : Heap} {a : Addr} {u : HO} (r : Rd H a u) (x : HOk P w H h) : ObjOk P w H h a u := by
  rcases r with r | ⟨o, r⟩
  · exact x a u r
  · obtain ⟨_, q⟩ := x a _ r
    exact q
def Mut : Option HO → Prop
  | some (.lst _) => True
  | some (.dK _) => True
  | some (.dT _) => True
  | some (.set _ _) => True
  | some (.ins _ _ _) => True
  | some (.ext _) => True
  | _ => False
section
variable {P : Program} {w : World} {H : Hp} {h h' : Heap} {x e : Addr} {o' : HO}
theorem HOk.write (ok : HOk P w H h) (mu : Mut (H x)) (he : e = x ∨ H e = some (.own x)) (k : ∀ b u, b ≠ e → h.get? b = some u → h'.get? b = some u) (heo : ∃ u, h'.get? e = some u)
    (new : ObjOk P w (upd H x o') h' x o') : HOk P w (upd H x o') h' := fun b u q => by
  have nown : ∀ c y, H c = some (.own y) → c ≠ x := fun c y r z => by subst z; rw [r] at mu; exact mu
  have ntup : ∀ c xs, H c = some (.tup xs) → c ≠ x := fun c xs r z => by subst z; rw [r] at mu; exact mu
  by_cases hb : b = x
  · subst hb; rw [upd_same] at q; cases q; exact new
  · rw [upd_ne hb] at q
    by_cases hbe : b = e
    · have q' : H b = some (.own x) := by
        rcases he with z | z
        · exact absurd (hbe.trans z) hb
        · rw [hbe]; exact z
      rw [q] at q'; cases q'
      obtain ⟨v, hv⟩ := heo
      exact ⟨v, by rw [hbe]; exact hv⟩
    · refine (ok b u q).stay (fun c v hc r => k c v ?_ r) (fun c r => by rw [upd_ne (nown c b r)]; exact r) fun c xs r => by rw [upd_ne (ntup c xs r)]; exact r
      rcases hc with rfl | hc
      · exact hbe
      · rintro rfl
        rcases he with z | z
        · exact nown c b hc z
        · rw [hc] at z; cases z; exact hb rfl
end
structure Un (fs ex : List Addr) (H H' : Hp) (h h' : Heap) : Prop where
  keep : ∀ b o, h.get? b = some o → H b = none → b ∉ fs → b ∉ ex → h'.get? b = some o
  slot : ∀ b o, h.get? b = some o → H b = none → b ∈ fs → b ∉ ex → ∃ sl, h'.get? b = some { o with slots := sl }
  free : ∀ b o, h.get? b = some o → H b = none → b ∉ ex → H' b = none
  there : ∀ b o, h.get? b = some o → b ∉ ex → ∃ o', h'.get? b = some o'
  tups : ∀ b xs, H b = some (.tup xs) → H' b = some (.tup xs)
  frzs : ∀ b o u, H b = some (.frz o u) → H' b = some (.frz o u)
  tbls : ∀ b ps, H b = some (.tbl ps) → ∃ more, H' b = some (.tbl (ps ++ more))
section
variable {fs fs' ex ex' : List Addr} {H H1 H2 : Hp} {h h1 h2 h' : Heap} {a x e : Addr} {o : HO}
theorem Un.any (u : Un fs ex H H1 h h1) {b : Addr} {ob : Obj} (q : h.get? b = some ob) (n : H b = none) (hx : b ∉ ex) : ∃ sl, h1.get? b = some { ob with slots := sl } := by
  by_cases hb : b ∈ fs
  · exact u.slot b ob q n hb hx
  · exact ⟨ob.slots, u.keep b ob q n hb hx⟩
theorem Un.trans (a : Un fs ex H H1 h h1) (b : Un fs ex H1 H2 h1 h2) : Un fs ex H H2 h h2 where
  keep := fun c ob q n hc hx => b.keep c ob (a.keep c ob q n hc hx) (a.free c ob q n hx) hc hx
  slot := fun c ob q n hc hx => by
    obtain ⟨sl, e1⟩ := a.slot c ob q n hc hx
    obtain ⟨sl', e2⟩ := b.slot c _ e1 (a.free c ob q n hx) hc hx
    exact ⟨sl', e2⟩
  free := fun c ob q n hx => by
    obtain ⟨o', e1⟩ := a.there c ob q hx
    exact b.free c o' e1 (a.free c ob q n hx) hx
  there := fun c ob q hx => by
    obtain ⟨o', e1⟩ := a.there c ob q hx
    exact b.there c o' e1 hx
  tups := fun c xs q => b.tups c xs (a.tups c xs q)
  frzs := fun c ob xs q => b.frzs c ob xs (a.frzs c ob xs q)
  tbls := fun c ps q => by
    obtain ⟨m1, e1⟩ := a.tbls c ps q
    obtain ⟨m2, e2⟩ := b.tbls c _ e1
    exact ⟨m1 ++ m2, by rw [e2, Array.append_assoc]⟩
theorem Un.kept (k : ∀ b u, h.get? b = some u → h'.get? b = some u) : Un fs ex H H h h' :=
  ⟨fun b ob q _ _ _ => k b ob q, fun b ob q _ _ _ => ⟨ob.slots, k b ob q⟩, fun _ _ _ n _ => n, fun b ob q _ => ⟨ob, k b ob q⟩, fun _ _ q => q, fun _ _ _ q => q, fun _ ps q => ⟨#[], by rw [q]; simp⟩⟩
theorem Un.refl : Un fs ex H H h h := Un.kept fun _ _ q => q
theorem Un.laid (k : ∀ b u, h.get? b = some u → h'.get? b = some u) (hp : h.objs.size ≤ a) (hn : H a = none) : Un fs ex H (upd H a o) h h' where
  keep := fun b u q _ _ _ => k b u q
  slot := fun b u q _ _ _ => ⟨u.slots, k b u q⟩
  free := fun b u q n _ => by rw [upd_ne (Nat.ne_of_lt (Nat.lt_of_lt_of_le (Heap.lt_size q) hp))]; exact n
  there := fun b u q _ => ⟨u, k b u q⟩
  tups := fun b xs q => by rw [upd_ne (ne_of_none q hn)]; exact q
  frzs := fun b u xs q => by rw [upd_ne (ne_of_none q hn)]; exact q
  tbls := fun b ps q => ⟨#[], by rw [upd_ne (ne_of_none q hn), q]; simp⟩
theorem Un.write (mu : Mut (H x)) (he : e = x ∨ H e = some (.own x)) (k : ∀ b u, b ≠ e → h.get? b = some u → h'.get? b = some u) (heo : ∃ u, h'.get? e = some u) : Un fs ex H (upd H x o) h h' := by
  have hx : ∀ b, H b = none → b ≠ x := fun b n z => by subst z; rw [n] at mu; exact mu
  have hb : ∀ b, H b = none → b ≠ e := fun b n z => by
    subst z
    rcases he with r | r
    · exact hx b n r
    · rw [n] at r; cases r
  have hm : ∀ b u, H b = some u → ¬ Mut (some u) → b ≠ x := fun b u q nm z => by subst z; rw [q] at mu; exact nm mu
  refine ⟨fun b u q n _ _ => k b u (hb b n) q, fun b u q n _ _ => ⟨u.slots, k b u (hb b n) q⟩, fun b u q n _ => by rw [upd_ne (hx b n)]; exact n, fun b u q _ => ?_,
    fun b xs q => by rw [upd_ne (hm b _ q fun z => z)]; exact q, fun b u xs q => by rw [upd_ne (hm b _ q fun z => z)]; exact q, fun b ps q => ⟨#[], by rw [upd_ne (hm b _ q fun z => z), q]; simp⟩⟩
  by_cases hbe : b = e
  · subst hbe; exact heo
  · exact ⟨u, k b u hbe q⟩
theorem Un.mono (u : Un fs ex H H1 h h1) (hs : ∀ b ∈ fs, b ∈ fs') (hx : ∀ b ∈ ex, b ∈ ex') : Un fs' ex' H H1 h h1 :=
  ⟨fun b ob q n hb he => u.keep b ob q n (fun z => hb (hs b z)) fun z => he (hx b z), fun _ _ q n _ he => u.any q n fun z => he (hx _ z), fun b ob q n he => u.free b ob q n fun z => he (hx b z), fun b ob q he => u.there b ob q fun z => he (hx b z), u.tups, u.frzs, u.tbls⟩
end
def trk (h : Heap) (H : Hp) : List Addr := (List.range h.objs.size).filter fun a => (H a).isSome
def hidT (h : Heap) (H : Hp) : Heap := PySem.W.hideAll h (trk h H)
theorem hidT_size (h : Heap) (H : Hp) : (hidT h H).objs.size = h.objs.size := PySem.W.hideAll_size _ _
theorem hidT_get {h : Heap} {H : Hp} {b : Addr} {o : Obj} (e : h.get? b = some o) (n : H b = none) : (hidT h H).get? b = some o :=
  PySem.W.hideAll_get _ e fun hm => by
    have q : (H b).isSome = true := (List.mem_filter.mp hm).2
    rw [n] at q; simp at q
theorem of_hidT {h : Heap} {H : Hp} {b : Addr} {o : Obj} (e : (hidT h H).get? b = some o) : h.get? b = some o ∧ H b = none := by
  have e' : h.get? b = some o := PySem.W.of_hideAll (trk h H) e
  refine ⟨e', ?_⟩
  cases q : H b with
  | none => rfl
  | some x =>
    have hm : b ∈ trk h H := List.mem_filter.mpr ⟨List.mem_range.mpr (Heap.lt_size e'), by simp [q]⟩
    have z : (hidT h H).get? b = none := PySem.W.hideAll_none (trk h H) hm
    rw [z] at e; cases e
def allNews (g h : Heap) (L : Addr) : List (Addr × Obj) := (List.range h.objs.size).filterMap fun a => if a = L ∨ (g.get? a).isSome = true then none else (h.get? a).map fun o => (a, o)
def rest (g h : Heap) (L d : Addr) : List (Addr × Obj) := (allNews g h L).filter fun p => decide (p.1 ≠ d)
end L2
namespace L2
open PySem PySem.Spec PyProof.Rows
structure Mod (K : PySem.W.Frag) (mg : Str → Option Value) (base : Heap) : Prop where
  kin : K.In base
  glob : base.Ns mainGlobals mg
  blt : ∃ mb, base.Ns builtinsNs mb ∧ ∀ x : Str, x ≠ "__name__" → mb x = bootBuiltins x
  nolimit : base.NoLimit
structure Cx where
  prog : Program
  w : World
  K : PySem.W.Frag
  mg : Str → Option Value
  base : Heap
  A : Around
  N : List Str
  s₀ : Shared
  H₀ : Hp
  env : Env
  outer : List Env
  stack : List Env
  ex : List Addr
  fn : Str → Bool
  calm : Bool
  pn : List (Addr × Obj)
  xe : Value → Shared → Prop
def frs (l : List Env) : List Addr := l.filterMap (·.frame)
abbrev Cx.fs (X : Cx) : List Addr := frs X.outer
def Vis (sc : Scope) (x : Str) : Prop := sc.names.lookup x = some .local ∨ sc.names.lookup x = some .cell ∨ sc.names.lookup x = some .free
def Loc (sc : Scope) (x : Str) : Prop := sc.names.lookup x = some .local ∨ sc.names.lookup x = some .cell
def Look (env : Env) (h : Heap) (m : Str → Option Value) (x : Str) (u : Value) : Prop :=
  (env.kindOf x = some .local ∧ m x = some u) ∨ ((env.kindOf x = some .cell ∨ env.kindOf x = some .free) ∧ ∃ c, env.cells.lookup x = some c ∧ h.IsCell c (some u))
structure Cx.Ok (X : Cx) : Prop where
  mod : Mod X.K X.mg X.base
  kind : X.env.scope.kind = .function
  glob : X.env.globals = mainGlobals
  blt : X.env.builtins = builtinsNs
  above : X.s₀.heap.objs.size ≤ X.env.locals
  inj : ∀ x y c, X.env.cells.lookup x = some c → X.env.cells.lookup y = some c → x = y
  has : ∀ x, (X.env.kindOf x = some .cell ∨ X.env.kindOf x = some .free) → ∃ c, X.env.cells.lookup x = some c
  cab : ∀ x c, X.fn x = true → X.env.cells.lookup x = some c → X.s₀.heap.objs.size ≤ c
  hd : X.calm = true → X.A.handled = none
  frames : X.A.frames = some X.stack
  stk : X.stack = X.outer ∨ (X.stack = X.env :: X.outer ∧ X.env.frame = some X.env.locals)
  exf : ∀ b ∈ X.ex, b ≠ X.env.locals ∧ ∀ x c, X.env.cells.lookup x = some c → c ≠ b
  bs : ∀ b o, X.base.get? b = some o → X.s₀.heap.get? b = some o ∧ X.H₀ b = none
  bsz : X.base.objs.size ≤ X.s₀.heap.objs.size
  noex : ∀ b o, X.base.get? b = some o → b ∉ X.ex
  exfs : ∀ b ∈ X.ex, b ∉ X.fs
  funs : X.s₀.heap.FunFrames X.base X.outer
  frf : ∀ b ∈ X.fs, X.H₀ b = none
structure Inv (X : Cx) (pins : List (Addr × Obj)) (σ : List (Option V)) (H : Hp) (s : Shared) : Prop where
  ok : X.Ok
  os : s.os = X.s₀.os
  bare : AllBare s.gens
  base : Un X.fs X.ex X.H₀ H X.s₀.heap s.heap
  loc : ∃ m, s.heap.Ns X.env.locals m ∧ ∀ (i : Nat) (x : Str) (v : V), X.N[i]? = some x → σ[i]? = some (some v) → Vis X.env.scope x → ∃ u, RelV v u ∧ Look X.env s.heap m x u
  cell : ∀ x c, X.env.cells.lookup x = some c → ∃ v, s.heap.IsCell c v
  free : H X.env.locals = none
  freeC : ∀ x c, X.env.cells.lookup x = some c → H c = none
  pin : ∀ p ∈ X.pn ++ pins, s.heap.get? p.1 = some p.2 ∧ H p.1 = none ∧ p.1 ≠ X.env.locals ∧ p.1 ∉ X.fs ∧ ∀ v, p.2.data ≠ .cell v
  hok : HOk X.prog X.w H s.heap
  len : σ.length = X.N.length
section
variable {X : Cx} {pins : List (Addr × Obj)} {σ : List (Option V)} {H H' : Hp} {s : Shared} {h' : Heap}
theorem Cx.Ok.nofr (ok : X.Ok) {b : Addr} {o : Obj} (e : X.base.get? b = some o) : b ∉ X.fs := fun hb => by
  have := (ok.funs.mem hb).1
  rw [e] at this; cases this
theorem Inv.bs (I : Inv X pins σ H s) : ∀ b o, X.base.get? b = some o → s.heap.get? b = some o ∧ H b = none := fun b o e =>
  ⟨I.base.keep b o (I.ok.bs b o e).1 (I.ok.bs b o e).2 (I.ok.nofr e) (I.ok.noex b o e), I.base.free b o (I.ok.bs b o e).1 (I.ok.bs b o e).2 (I.ok.noex b o e)⟩
theorem Inv.bk (I : Inv X pins σ H s) : ∀ b o, X.base.get? b = some o → s.heap.get? b = some o := fun b o e => (I.bs b o e).1
theorem Inv.mod (I : Inv X pins σ H s) : Mod X.K X.mg X.base := I.ok.mod
theorem Inv.kIn (I : Inv X pins σ H s) : X.K.In s.heap := I.ok.mod.kin.keeps I.bk
theorem Inv.nolimit (I : Inv X pins σ H s) : s.heap.NoLimit := I.ok.mod.nolimit.keeps I.bk
theorem Inv.fr (I : Inv X pins σ H s) : ∃ m, Fr X.base X.env.locals s.heap m :=
  let ⟨m, hn, _⟩ := I.loc
  ⟨m, hn, I.bk, Nat.le_trans I.ok.bsz I.ok.above⟩
theorem Inv.lt (I : Inv X pins σ H s) : X.env.locals < s.heap.objs.size := let ⟨_, hn, _⟩ := I.loc; hn.lt
theorem Inv.sz (I : Inv X pins σ H s) : X.s₀.heap.objs.size ≤ s.heap.objs.size := Nat.le_trans I.ok.above (Nat.le_of_lt I.lt)
theorem Inv.nofs (I : Inv X pins σ H s) {a : Addr} (h : s.heap.objs.size ≤ a) : a ∉ X.fs := fun hb => by
  obtain ⟨_, o, ho, _⟩ := I.ok.funs.mem hb
  exact absurd (Nat.lt_of_lt_of_le (Heap.lt_size ho) (Nat.le_trans I.sz h)) (Nat.lt_irrefl _)
theorem Inv.cne (I : Inv X pins σ H s) : ∀ x c, X.env.cells.lookup x = some c → c ≠ X.env.locals := fun x c e z => by
  obtain ⟨v, o, ho, hd⟩ := I.cell x c e
  obtain ⟨m, ⟨o', es, ep, ho', hd', _⟩, _⟩ := I.loc
  rw [z, ho'] at ho; cases ho; rw [hd'] at hd; cases hd
theorem Inv.funs (I : Inv X pins σ H s) : s.heap.FunFrames X.base X.outer := by
  have all : ∀ (l : List Env), (∀ b ∈ frs l, b ∈ X.fs) → X.s₀.heap.FunFrames X.base l → s.heap.FunFrames X.base l := by
    intro l
    induction l with
    | nil => intro _ _; trivial
    | cons env r ih =>
      intro hs hl
      obtain ⟨hk, ⟨L, o, hf, hn, ho, hd⟩, hr⟩ := hl
      have hL : L ∈ X.fs := hs L (by unfold frs; rw [List.filterMap_cons, hf]; exact List.mem_cons_self)
      obtain ⟨sl, e⟩ := I.base.slot L o ho (I.ok.frf L hL) hL fun z => I.ok.exfs L z hL
      exact ⟨hk, ⟨L, _, hf, hn, e, hd⟩, ih (fun b hb => hs b (by unfold frs; rw [List.filterMap_cons, hf]; exact List.mem_cons_of_mem _ hb)) hr⟩
  exact all X.outer (fun _ hb => hb) I.ok.funs
theorem Inv.stack (I : Inv X pins σ H s) : s.heap.FunFrames X.base X.stack := by
  rcases I.ok.stk with e | ⟨e, hf⟩
  · rw [e]; exact I.funs
  · rw [e]
    obtain ⟨m, hn, _⟩ := I.loc
    refine .cons (by rw [I.ok.kind]; decide) hf hn ?_ I.funs
    exact Heap.get?_none_of_le (Nat.le_trans I.ok.bsz I.ok.above)
theorem Inv.stkSub (I : Inv X pins σ H s) : ∀ b ∈ frs X.stack, b ∈ X.env.locals :: X.fs := fun b hb => by
  rcases I.ok.stk with e | ⟨e, hf⟩
  · rw [e] at hb; exact List.mem_cons_of_mem _ hb
  · rw [e] at hb
    unfold frs at hb
    rw [List.filterMap_cons, hf] at hb
    exact hb
theorem Inv.stkFree (I : Inv X pins σ H s) : ∀ b ∈ frs X.stack, H b = none := fun b hb => by
  rcases List.mem_cons.mp (I.stkSub b hb) with e | hb
  · rw [e]; exact I.free
  · obtain ⟨_, o, ho, _⟩ := I.ok.funs.mem hb
    exact I.base.free b o ho (I.ok.frf b hb) fun z => I.ok.exfs b z hb
theorem Inv.step {g' : Array GenState} {t' : Nat} {d' : Drawn} {ch : List Addr} (I : Inv X pins σ H s)
    (hch : ∀ b ∈ ch, (b ∈ X.ex ∨ X.s₀.heap.objs.size ≤ b) ∧ b ≠ X.env.locals ∧ (∀ x c, X.env.cells.lookup x = some c → c ≠ b) ∧ ∀ p ∈ X.pn ++ pins, p.1 ≠ b)
    (keep : ∀ b o, b ≠ X.env.locals → b ∉ X.fs → b ∉ ch → s.heap.get? b = some o → H b = none → h'.get? b = some o)
    (slot : ∀ b o, b ≠ X.env.locals → b ∈ X.fs → b ∉ ch → s.heap.get? b = some o → H b = none → ∃ sl, h'.get? b = some { o with slots := sl }) (free : ∀ b o, b ∉ ch → s.heap.get? b = some o → H b = none → H' b = none)
    (there : ∀ b o, b ∉ ch → s.heap.get? b = some o → ∃ o', h'.get? b = some o')
    (tups : ∀ b xs, H b = some (.tup xs) → H' b = some (.tup xs)) (frzs : ∀ b o u, H b = some (.frz o u) → H' b = some (.frz o u)) (tbls : ∀ b ps, H b = some (.tbl ps) → ∃ more, H' b = some (.tbl (ps ++ more)))
    (ns : ∀ m, s.heap.Ns X.env.locals m → h'.Ns X.env.locals m) (hok : HOk X.prog X.w H' h') (hg : AllBare g') :
    Inv X pins σ H' { s with heap := h', gens := g', drawn := d', toks := t' } := by
  have neL : ∀ b o, X.s₀.heap.get? b = some o → b ≠ X.env.locals := fun b o e => Nat.ne_of_lt (Nat.lt_of_lt_of_le (Heap.lt_size e) I.ok.above)
  have neC : ∀ b o, X.s₀.heap.get? b = some o → b ∉ X.ex → b ∉ ch := fun b o e hx hb => by
    rcases (hch b hb).1 with z | z
    · exact hx z
    · exact absurd (Nat.lt_of_lt_of_le (Heap.lt_size e) z) (Nat.lt_irrefl _)
  have cellK : ∀ x c, X.env.cells.lookup x = some c → ∀ v, s.heap.IsCell c v → h'.IsCell c v := fun x c e v ⟨o, ho, hd⟩ => by
    have nch : c ∉ ch := fun z => (hch c z).2.2.1 x c e rfl
    by_cases hc : c ∈ X.fs
    · obtain ⟨sl, q⟩ := slot c o (I.cne x c e) hc nch ho (I.freeC x c e)
      exact ⟨_, q, hd⟩
    · exact ⟨o, keep c o (I.cne x c e) hc nch ho (I.freeC x c e), hd⟩
  refine ⟨I.ok, I.os, hg, ⟨fun b o e n hb hx => ?_, fun b o e n hb hx => ?_, fun b o e n hx => ?_, fun b o e hx => ?_, fun b xs e => tups b xs (I.base.tups b xs e), fun b o xs e => frzs b o xs (I.base.frzs b o xs e), fun b ps e => ?_⟩, ?_, fun x c e => ?_, ?_, fun x c e => ?_, fun p hp => ?_, hok, I.len⟩
  · exact keep b o (neL b o e) hb (neC b o e hx) (I.base.keep b o e n hb hx) (I.base.free b o e n hx)
  · obtain ⟨sl, e1⟩ := I.base.slot b o e n hb hx
    obtain ⟨sl', e2⟩ := slot b _ (neL b o e) hb (neC b o e hx) e1 (I.base.free b o e n hx)
    exact ⟨sl', e2⟩
  · obtain ⟨o', e1⟩ := I.base.there b o e hx
    exact free b o' (neC b o e hx) e1 (I.base.free b o e n hx)
  · obtain ⟨o', e1⟩ := I.base.there b o e hx
    exact there b o' (neC b o e hx) e1
  · obtain ⟨m1, e1⟩ := I.base.tbls b ps e
    obtain ⟨m2, e2⟩ := tbls b _ e1
    exact ⟨m1 ++ m2, by rw [e2, Array.append_assoc]⟩
  · obtain ⟨m, hn, hl⟩ := I.loc
    refine ⟨m, ns m hn, fun i x v e1 e2 e3 => ?_⟩
    obtain ⟨u, r, l⟩ := hl i x v e1 e2 e3
    refine ⟨u, r, ?_⟩
    rcases l with l | ⟨k, c, e, z⟩
    · exact .inl l
    · exact .inr ⟨k, c, e, cellK x c e _ z⟩
  · obtain ⟨v, z⟩ := I.cell x c e
    exact ⟨v, cellK x c e v z⟩
  · obtain ⟨m, ⟨o, _, _, ho, _⟩, _⟩ := I.loc
    exact free _ o (fun z => (hch _ z).2.1 rfl) ho I.free
  · obtain ⟨v, o, ho, hd⟩ := I.cell x c e
    exact free c o (fun z => (hch c z).2.2.1 x c e rfl) ho (I.freeC x c e)
  · obtain ⟨e, n, ne, nf, d⟩ := I.pin p hp
    have nch : p.1 ∉ ch := fun z => (hch p.1 z).2.2.2 p hp rfl
    exact ⟨keep p.1 p.2 ne nf nch e n, free p.1 p.2 nch e n, ne, nf, d⟩
theorem Inv.un {t' : Nat} (I : Inv X pins σ H s) (u : Un X.fs [] H H' s.heap h') (hok : HOk X.prog X.w H' h') : Inv X pins σ H' { s with heap := h', toks := t' } := by
  obtain ⟨m, ⟨o, es, ep, ho, r⟩, _⟩ := id I.loc
  obtain ⟨sl, hL⟩ := u.any ho I.free (by simp)
  exact I.step (g' := s.gens) (d' := s.drawn) (ch := []) (fun _ z => nomatch z) (fun b o _ hb _ e n => u.keep b o e n hb (by simp)) (fun b o _ hb _ e n => u.slot b o e n hb (by simp)) (fun b o _ e n => u.free b o e n (by simp)) (fun b o _ e => u.there b o e (by simp)) u.tups u.frzs u.tbls (fun m' hm => by
    obtain ⟨o', es', ep', ho', r'⟩ := hm
    rw [ho] at ho'; cases ho'
    exact ⟨_, es', ep', hL, r'⟩) hok I.bare
theorem Inv.call {g' : Array GenState} {t' : Nat} {d' : Drawn} {ch : List Addr} (I : Inv X pins σ H s) (u : Un (frs X.stack) ch H H' s.heap h') (hok : HOk X.prog X.w H' h') (hg : AllBare g')
    (hch : ∀ b ∈ ch, (b ∈ X.ex ∨ X.s₀.heap.objs.size ≤ b) ∧ b ≠ X.env.locals ∧ (∀ x c, X.env.cells.lookup x = some c → c ≠ b) ∧ ∀ p ∈ X.pn ++ pins, p.1 ≠ b) :
    Inv X pins σ H' { s with heap := h', gens := g', drawn := d', toks := t' } := by
  obtain ⟨m, ⟨o, es, ep, ho, r⟩, _⟩ := id I.loc
  obtain ⟨sl, hL⟩ := u.any ho I.free fun z => (hch _ z).2.1 rfl
  exact I.step (ch := ch) hch (fun b o hL hb hc e n => u.keep b o e n (fun z => (List.mem_cons.mp (I.stkSub b z)).elim hL hb) hc) (fun b o _ _ hc e n => u.any e n hc) (fun b o hc e n => u.free b o e n hc) (fun b o hc e => u.there b o e hc) u.tups u.frzs u.tbls (fun m' hm => by
    obtain ⟨o', es', ep', ho', r'⟩ := hm
    rw [ho] at ho'; cases ho'
    exact ⟨_, es', ep', hL, r'⟩) hok hg
theorem Inv.turned {t' : Nat} {it : Addr} (I : Inv X pins σ H s) (k : ∀ b o, b ≠ it → s.heap.get? b = some o → h'.get? b = some o) (hn : H it = none) (hL : it ≠ X.env.locals)
    (h1 : it ∈ X.ex ∨ X.s₀.heap.objs.size ≤ it) (h2 : ∀ x c, X.env.cells.lookup x = some c → c ≠ it) (h3 : ∀ p ∈ X.pn ++ pins, p.1 ≠ it) : Inv X pins σ H { s with heap := h', toks := t' } := by
  have nit : ∀ b u, H b = some u → b ≠ it := fun b u e z => by rw [z, hn] at e; cases e
  refine I.step (g' := s.gens) (d' := s.drawn) (ch := [it]) (fun b hb => ?_) (fun b o _ _ hc e _ => k b o (fun z => hc (by simp [z])) e) (fun b o _ _ hc e _ => ⟨o.slots, k b o (fun z => hc (by simp [z])) e⟩) (fun _ _ _ _ n => n)
    (fun b o hc e => ⟨o, k b o (fun z => hc (by simp [z])) e⟩) (fun _ _ e => e) (fun _ _ _ e => e) (fun b ps e => ⟨#[], by rw [e]; simp⟩) (fun m hm => ?_) (fun b u e => ?_) I.bare
  · have e : b = it := by simpa using hb
    subst e
    exact ⟨h1, hL, h2, h3⟩
  · obtain ⟨o, es, ep, ho, r⟩ := hm
    exact ⟨o, es, ep, k _ o (Ne.symm hL) ho, r⟩
  · refine (I.hok b u e).stay (fun c v hc q => k c v ?_ q) (fun _ q => q) fun _ _ q => q
    rcases hc with z | z
    · rw [z]; exact nit b u e
    · exact nit c _ z
theorem Inv.tok (I : Inv X pins σ H s) (t : Nat) : Inv X pins σ H { s with toks := t } := I.un (h' := s.heap) (t' := t) Un.refl I.hok
theorem Inv.kept {t' : Nat} (I : Inv X pins σ H s) (k : ∀ b u, s.heap.get? b = some u → h'.get? b = some u) : Inv X pins σ H { s with heap := h', toks := t' } := I.un (Un.kept k) (I.hok.kept k)
theorem Inv.laid {a : Addr} {o : HO} {t' : Nat} (I : Inv X pins σ H s) (k : ∀ b u, s.heap.get? b = some u → h'.get? b = some u) (hp : s.heap.objs.size ≤ a) (new : ObjOk X.prog X.w (upd H a o) h' a o) :
    Inv X pins σ (upd H a o) { s with heap := h', toks := t' } := I.un (Un.laid k hp (I.hok.fresh hp)) (I.hok.laid k hp new)
theorem Inv.write {x e : Addr} {o : HO} {t' : Nat} (I : Inv X pins σ H s) (mu : Mut (H x)) (he : e = x ∨ H e = some (.own x)) (k : ∀ b u, b ≠ e → s.heap.get? b = some u → h'.get? b = some u) (heo : ∃ u, h'.get? e = some u)
    (new : ObjOk X.prog X.w (upd H x o) h' x o) : Inv X pins σ (upd H x o) { s with heap := h', toks := t' } := I.un (Un.write mu he k heo) (I.hok.write mu he k heo new)
theorem Inv.pins_of {pins' : List (Addr × Obj)} (I : Inv X pins σ H s) (h : ∀ p ∈ pins', s.heap.get? p.1 = some p.2 ∧ H p.1 = none ∧ p.1 ≠ X.env.locals ∧ p.1 ∉ X.fs ∧ ∀ v, p.2.data ≠ .cell v) : Inv X pins' σ H s :=
  ⟨I.ok, I.os, I.bare, I.base, I.loc, I.cell, I.free, I.freeC, fun p hp => (List.mem_append.mp hp).elim (fun z => I.pin p (List.mem_append_left _ z)) (h p), I.hok, I.len⟩
theorem nodup_ix {N : List Str} (hN : N.Nodup) {i j : Nat} {x : Str} (a : N[i]? = some x) (b : N[j]? = some x) : i = j := by
  obtain ⟨h1, e1⟩ := List.getElem?_eq_some_iff.mp a
  obtain ⟨h2, e2⟩ := List.getElem?_eq_some_iff.mp b
  exact (List.getElem_inj hN).mp (e1.trans e2.symm)
theorem store_ok2 {M : Model} {A : Around} {E : Value → Shared → Prop} {i : Nat} {x : Str} {v : V} {u : Value} {Q : Unit → Shared → Prop} (I : Inv X pins σ H s) (hN : X.N.Nodup) (hi : X.N[i]? = some x) (hx : Loc X.env.scope x) (r : RelV v u)
    (h : ∀ s', Inv X pins (σ.set i (some v)) H s' → (∃ a, Heap.SameBut a s.heap s'.heap ∧ (a = X.env.locals ∨ X.env.cells.lookup x = some a)) → Q () s') (hf : X.fn x = true ∨ X.env.scope.names.lookup x = some .local := by first | exact .inl rfl | exact .inr rfl | assumption) : wpAny M A (storeName X.env x u) Q E s := by
  obtain ⟨m, hn, hl⟩ := id I.loc
  have hcls : (X.env.scope.kind == .class || (X.env.scope.kind == .module && X.env.locals != X.env.globals)) = false := by rw [I.ok.kind]; rfl
  have hiσ : i < σ.length := by rw [I.len]; exact (List.getElem?_eq_some_iff.mp hi).1
  have cne := I.cne
  have tracked : ∀ {a : Addr} {h' : Heap}, (∃ o, s.heap.get? a = some o ∧ H a = none) → Heap.SameBut a s.heap h' → HOk X.prog X.w H h' := fun {a h'} ha hs b ob e => by
    obtain ⟨_, _, hfree⟩ := ha
    refine (I.hok b ob e).stay (fun c w' hc q => (hs.2 c ?_).trans q) (fun _ q => q) fun _ _ q => q
    rintro rfl
    rcases hc with rfl | hc
    · rw [hfree] at e; cases e
    · rw [hfree] at hc; cases hc
  rcases hx with hk | hk
  · refine wpAny_storeName_local hk hn (fun h' hn' hs => ?_) hcls
    obtain ⟨oL, _, _, hoL, _⟩ := id hn
    refine h _ ⟨I.ok, I.os, I.bare, ⟨fun b o e n hb hx => ?_, fun b o e n hb hx => ?_, I.base.free, fun b o e hx => ?_, I.base.tups, I.base.frzs, I.base.tbls⟩, ⟨_, hn', fun j y v' e1 e2 e3 => ?_⟩, fun y c e => ?_, I.free, I.freeC, fun p hp => ?_, tracked ⟨oL, hoL, I.free⟩ hs, by simpa using I.len⟩ ⟨_, hs, .inl rfl⟩
    · exact (hs.2 b (Nat.ne_of_lt (Nat.lt_of_lt_of_le (Heap.lt_size e) I.ok.above))).trans (I.base.keep b o e n hb hx)
    · obtain ⟨sl, e1⟩ := I.base.slot b o e n hb hx
      exact ⟨sl, (hs.2 b (Nat.ne_of_lt (Nat.lt_of_lt_of_le (Heap.lt_size e) I.ok.above))).trans e1⟩
    · obtain ⟨o', e1⟩ := I.base.there b o e hx
      exact ⟨o', (hs.2 b (Nat.ne_of_lt (Nat.lt_of_lt_of_le (Heap.lt_size e) I.ok.above))).trans e1⟩
    · by_cases hj : j = i
      · subst hj
        rw [hi] at e1; cases e1
        rw [List.getElem?_set_self hiσ] at e2
        cases e2
        exact ⟨u, r, .inl ⟨hk, by simp⟩⟩
      · rw [List.getElem?_set_ne (Ne.symm hj)] at e2
        obtain ⟨u', r', q⟩ := hl j y v' e1 e2 e3
        refine ⟨u', r', ?_⟩
        rcases q with ⟨k, e⟩ | ⟨k, c, e, z⟩
        · refine .inl ⟨k, ?_⟩
          have : y ≠ x := fun e => hj (nodup_ix hN e1 (e ▸ hi))
          simp [this, e]
        · exact .inr ⟨k, c, e, z.sameBut hs (cne y c e)⟩
    · obtain ⟨w', z⟩ := I.cell y c e
      exact ⟨w', z.sameBut hs (cne y c e)⟩
    · obtain ⟨e, n, ne, nf, d⟩ := I.pin p hp
      exact ⟨(hs.2 p.1 ne).trans e, n, ne, nf, d⟩
  · have hfn : X.fn x = true := by
      rcases hf with z | z
      · exact z
      · rw [z] at hk; cases hk
    obtain ⟨c, hc⟩ := I.ok.has x (.inl hk)
    obtain ⟨w', z⟩ := I.cell x c hc
    refine wpAny_storeName_cell I.ok.kind hk hc z (fun h' hc' hs => ?_)
    obtain ⟨oc, hoc, hocd⟩ := id z
    refine h { s with heap := h' } ⟨I.ok, I.os, I.bare, ⟨fun b o e n hb hx => ?_, fun b o e n hb hx => ?_, I.base.free, fun b o e hx => ?_, I.base.tups, I.base.frzs, I.base.tbls⟩, ⟨m, hn.sameBut hs (Ne.symm (cne x c hc)), fun j y v' e1 e2 e3 => ?_⟩, fun y c' e => ?_, I.free, I.freeC, fun p hp => ?_, tracked ⟨oc, hoc, I.freeC x c hc⟩ hs, by simpa using I.len⟩ ⟨c, hs, .inr hc⟩
    · exact (hs.2 b (Nat.ne_of_lt (Nat.lt_of_lt_of_le (Heap.lt_size e) (I.ok.cab x c hfn hc)))).trans (I.base.keep b o e n hb hx)
    · obtain ⟨sl, e1⟩ := I.base.slot b o e n hb hx
      exact ⟨sl, (hs.2 b (Nat.ne_of_lt (Nat.lt_of_lt_of_le (Heap.lt_size e) (I.ok.cab x c hfn hc)))).trans e1⟩
    · obtain ⟨o', e1⟩ := I.base.there b o e hx
      exact ⟨o', (hs.2 b (Nat.ne_of_lt (Nat.lt_of_lt_of_le (Heap.lt_size e) (I.ok.cab x c hfn hc)))).trans e1⟩
    · by_cases hj : j = i
      · subst hj
        rw [hi] at e1; cases e1
        rw [List.getElem?_set_self hiσ] at e2
        cases e2
        exact ⟨u, r, .inr ⟨.inl hk, c, hc, hc'⟩⟩
      · rw [List.getElem?_set_ne (Ne.symm hj)] at e2
        obtain ⟨u', r', q⟩ := hl j y v' e1 e2 e3
        refine ⟨u', r', ?_⟩
        rcases q with q | ⟨k, c', e, z'⟩
        · exact .inl q
        · refine .inr ⟨k, c', e, z'.sameBut hs ?_⟩
          rintro rfl
          exact hj (nodup_ix hN e1 (I.ok.inj _ _ _ e hc ▸ hi))
    · by_cases hcc : c' = c
      · subst hcc; exact ⟨_, hc'⟩
      · obtain ⟨w2, z2⟩ := I.cell y c' e
        exact ⟨w2, z2.sameBut hs hcc⟩
    · obtain ⟨e, n, ne, nf, d⟩ := I.pin p hp
      refine ⟨(hs.2 p.1 ?_).trans e, n, ne, nf, d⟩
      intro q
      rw [q, hoc] at e
      have q' : oc = p.2 := Option.some.inj e
      exact d w' (by rw [← q']; exact hocd)
theorem store_ok {M : Model} {A : Around} {E : Value → Shared → Prop} {i : Nat} {x : Str} {v : V} {u : Value} {Q : Unit → Shared → Prop} (I : Inv X pins σ H s) (hN : X.N.Nodup) (hi : X.N[i]? = some x) (hx : Loc X.env.scope x) (r : RelV v u)
    (h : ∀ s', Inv X pins (σ.set i (some v)) H s' → Q () s') (hf : X.fn x = true ∨ X.env.scope.names.lookup x = some .local := by first | exact .inl rfl | exact .inr rfl | assumption) : wpAny M A (storeName X.env x u) Q E s :=
  store_ok2 I hN hi hx r (fun s' I' _ => h s' I') hf
theorem Inv.call' {s' : Shared} {ch : List Addr} (I : Inv X pins σ H s) (ho : s'.os = s.os) (u : Un (frs X.stack) ch H H' s.heap s'.heap) (hok : HOk X.prog X.w H' s'.heap) (hg : AllBare s'.gens)
    (hch : ∀ b ∈ ch, (b ∈ X.ex ∨ X.s₀.heap.objs.size ≤ b) ∧ b ≠ X.env.locals ∧ (∀ x c, X.env.cells.lookup x = some c → c ≠ b) ∧ ∀ p ∈ X.pn ++ pins, p.1 ≠ b) : Inv X pins σ H' s' := by
  obtain ⟨h', g', d', t', o'⟩ := s'
  have e : o' = s.os := ho
  subst e
  exact I.call (g' := g') (t' := t') (d' := d') u hok hg hch
end
abbrev XK := Value → Option Addr → Hp → Prop
abbrev St := List (Option V)
abbrev VK := V → Hp → Prop
abbrev TE := St → Hp → VK → Prop
abbrev TT := St → Hp → (Bool → Hp → Prop) → Prop
abbrev TA := St → Hp → (List V → Hp → Prop) → Prop
structure Ends where
  nx : St → Hp → Prop
  rt : VK
  bk : St → Hp → Prop := fun _ _ => False
  ct : St → Hp → Prop := fun _ _ => False
abbrev TS := Ends → St → Hp → Prop
def EP (X : Cx) (pins : List (Addr × Obj)) (σ : St) (Q : VK) (u : Value) (s' : Shared) : Prop := ∃ v H', Inv X pins σ H' s' ∧ RelV v u ∧ Q v H'
def TP (X : Cx) (pins : List (Addr × Obj)) (σ : St) (Q : Bool → Hp → Prop) (b : Bool) (s' : Shared) : Prop := ∃ H', Inv X pins σ H' s' ∧ Q b H'
def AP (X : Cx) (pins : List (Addr × Obj)) (σ : St) (Q : List V → Hp → Prop) (us : List Value) (s' : Shared) : Prop := ∃ vs H', Inv X pins σ H' s' ∧ Vals vs us ∧ Q vs H'
def SP (X : Cx) (pins : List (Addr × Obj)) (D : Ends) (f : Flow) (s' : Shared) : Prop :=
  match f with
  | .next => ∃ σ' H', Inv X pins σ' H' s' ∧ D.nx σ' H'
  | .brk => ∃ σ' H', Inv X pins σ' H' s' ∧ D.bk σ' H'
  | .cont => ∃ σ' H', Inv X pins σ' H' s' ∧ D.ct σ' H'
  | .ret u => ∃ v σ' H', Inv X pins σ' H' s' ∧ RelV v u ∧ D.rt v H'
def PE (X : Cx) (e : Expr) (t : TE) : Prop :=
  ∀ (pins : List (Addr × Obj)) (s : Shared) (σ : St) (H : Hp) (Q : VK), Inv X pins σ H s → t σ H Q → wpAny (model X.prog X.w) X.A (eval e X.env) (EP X pins σ Q) X.xe s
def PT (X : Cx) (e : Expr) (t : TT) : Prop :=
  ∀ (pins : List (Addr × Obj)) (s : Shared) (σ : St) (H : Hp) (Q : Bool → Hp → Prop), Inv X pins σ H s → t σ H Q → wpAny (model X.prog X.w) X.A (isTrue e X.env (eval e X.env)) (TP X pins σ Q) X.xe s
def PW (X : Cx) (e : Expr) (t : TT) : Prop :=
  ∀ (whole : Sem Value) (pins : List (Addr × Obj)) (s : Shared) (σ : St) (H : Hp) (Q : Bool → Hp → Prop), Inv X pins σ H s → t σ H Q → wpAny (model X.prog X.w) X.A (isTrue e X.env whole) (TP X pins σ Q) X.xe s
theorem PW.pt {X : Cx} {e : Expr} {t : TT} (h : PW X e t) : PT X e t := h _
def PA (X : Cx) (es : List Expr) (t : TA) : Prop :=
  ∀ (pos : Pos) (pins : List (Addr × Obj)) (s : Shared) (σ : St) (H : Hp) (Q : List V → Hp → Prop), Inv X pins σ H s → t σ H Q → wpAny (model X.prog X.w) X.A (spliced (backTo pos (starEach es X.env))) (AP X pins σ Q) X.xe s
def PS (X : Cx) (st : Stmt) (t : TS) : Prop :=
  ∀ (pins : List (Addr × Obj)) (s : Shared) (σ : St) (H : Hp) (D : Ends), Inv X pins σ H s → t D σ H → wpAny (model X.prog X.w) X.A (exec st X.env) (SP X pins D) X.xe s
def PSs (X : Cx) (st : List Stmt) (t : TS) : Prop :=
  ∀ (pins : List (Addr × Obj)) (s : Shared) (σ : St) (H : Hp) (D : Ends), Inv X pins σ H s → t D σ H → wpAny (model X.prog X.w) X.A (execs st X.env) (SP X pins D) X.xe s
theorem thn {α : Type} {t : Sem α} {Q Q' : α → Shared → Prop} {M : Model} {A : Around} {E : Value → Shared → Prop} {s : Shared} (h : wpAny M A t Q E s) (hQ : ∀ a s, Q a s → Q' a s) : wpAny M A t Q' E s := wpAny_mono h hQ fun _ _ x => x
end L2
namespace L2
open PySem PySem.Spec PyProof.Rows
section
variable {X : Cx}
def tVar (i : Nat) : TE := fun σ H Q => ∃ v, σ[i]? = some (some v) ∧ Q v H
def tC (v : V) : TE := fun _ H Q => Q v H
theorem pe_var {i : Nat} {x : Str} {pos : Pos} (hN : X.N[i]? = some x) (hv : Vis X.env.scope x) (hd : (x == ("__debug__" : Str)) = false := by decide) (hcd : (x == ("__classdict__" : Str)) = false := by decide) : PE X (.Name x pos) (tVar i) := by
  intro pins s σ H Q I h
  obtain ⟨v, e, h⟩ := h
  obtain ⟨m, hn, hl⟩ := I.loc
  obtain ⟨u, r, l⟩ := hl i x v hN e hv
  have fin : EP X pins σ Q u s := ⟨v, H, I, r, h⟩
  rcases l with ⟨hk, hm⟩ | ⟨hk, c, hc, hcell⟩
  · exact wpAny_Name (wpAny_loadName_local I.ok.kind hk hn hm fin) hd
  · rcases hk with hk | hk
    · exact wpAny_Name (wpAny_loadName_cell I.ok.kind hk hc hcell fin) hd
    · exact wpAny_Name (wpAny_loadName_free I.ok.kind hk hc hcell fin hcd) hd
theorem pe_int {i j pos} : PE X (.Constant (.int i) j pos) (tC (.int i)) := fun _ _ _ H _ I h => wpAny_Constant_int ⟨.int i, H, I.tok _, ⟨_, rfl⟩, h⟩
theorem pe_bl {b j pos} : PE X (.Constant (.bool b) j pos) (tC (.bl b)) := fun _ _ _ H _ I h => Constant_bool ⟨.bl b, H, I, rfl, h⟩
theorem pe_non {j pos} : PE X (.Constant .none j pos) (tC .non) := fun _ _ _ H _ I h => Constant_none ⟨.non, H, I, rfl, h⟩
theorem pe_str {x j pos} : PE X (.Constant (.str x) j pos) (tC (.str x)) := fun _ _ _ H _ I h => Calls.Constant_str ⟨.str x, H, I.tok _, ⟨_, rfl⟩, h⟩
def Gl (X : Cx) (x : Str) : Prop := X.env.kindOf x = some .globalImplicit
theorem ld_glob {E : Value → Shared → Prop} {pins : List (Addr × Obj)} {s : Shared} {σ : St} {H : Hp} {x : Str} {u : Value} {pos : Pos} {Q : Value → Shared → Prop} (I : Inv X pins σ H s) (hg : Gl X x) (hm : X.mg x = some u) (h : Q u s)
    (hd : (x == ("__debug__" : Str)) = false := by decide) : wpAny (model X.prog X.w) X.A (eval (.Name x pos) X.env) Q E s :=
  Calls.Name_function_global I.ok.kind hg (Calls.loadGlobal_global (by rw [I.ok.glob]; exact I.mod.glob.keeps I.bk) hm h) hd
theorem ld_blt {E : Value → Shared → Prop} {pins : List (Addr × Obj)} {s : Shared} {σ : St} {H : Hp} {x : Str} {u : Value} {pos : Pos} {Q : Value → Shared → Prop} (I : Inv X pins σ H s) (hg : Gl X x) (hm : X.mg x = none) (hv : bootBuiltins x = some u) (h : Q u s)
    (hn : x ≠ "__name__" := by decide) (hd : (x == ("__debug__" : Str)) = false := by decide) : wpAny (model X.prog X.w) X.A (eval (.Name x pos) X.env) Q E s := by
  obtain ⟨mb, h1, h2⟩ := I.mod.blt
  exact Calls.Name_function_global I.ok.kind hg (Calls.loadGlobal_builtin (by rw [I.ok.glob]; exact I.mod.glob.keeps I.bk) hm (by rw [I.ok.blt]; exact h1.keeps I.bk) ((h2 x hn).trans hv) h) hd
theorem pe_glob {x : Str} {v : V} {u : Value} {pos : Pos} (hg : Gl X x) (hm : X.mg x = some u) (r : RelV v u) (hd : (x == ("__debug__" : Str)) = false := by decide) : PE X (.Name x pos) (tC v) :=
  fun _ _ _ H _ I h => ld_glob I hg hm ⟨v, H, I, r, h⟩ hd
theorem pe_bltn {x : Str} {v : V} {u : Value} {pos : Pos} (hg : Gl X x) (hm : X.mg x = none) (hv : bootBuiltins x = some u) (r : RelV v u) (hn : x ≠ "__name__" := by decide) (hd : (x == ("__debug__" : Str)) = false := by decide) : PE X (.Name x pos) (tC v) :=
  fun _ _ _ H _ I h => ld_blt I hg hm hv ⟨v, H, I, r, h⟩ hn hd
def t2I (ta tb : TE) (k : Int → Int → Hp → Prop) : St → Hp → Prop := fun σ H => ta σ H fun x H1 => tb σ H1 fun y H2 => ∃ i j, x = .int i ∧ y = .int j ∧ k i j H2
def tAdd (ta tb : TE) : TE := fun σ H Q => t2I ta tb (fun i j H2 => Q (.int (i + j)) H2) σ H
def tSub (ta tb : TE) : TE := fun σ H Q => t2I ta tb (fun i j H2 => Q (.int (i - j)) H2) σ H
def tMul (ta tb : TE) : TE := fun σ H Q => t2I ta tb (fun i j H2 => (-(2 ^ 64) < i ∧ i < 2 ^ 64) ∧ Q (.int (i * j)) H2) σ H
variable {a b : Expr} {ta tb : TE} {pos : Pos}
def PC (X : Cx) (op : CmpOp) (a b : Expr) (t : TE) : Prop :=
  ∀ (pins : List (Addr × Obj)) (s : Shared) (σ : St) (H : Hp) (Q : VK), Inv X pins σ H s → t σ H Q →
    wpAny (model X.prog X.w) X.A (eval a X.env) (fun v s₁ => wpAny (model X.prog X.w) X.A (eval b X.env) (fun u s₂ => wpAny (model X.prog X.w) X.A (compareOp op v u) (EP X pins σ Q) X.xe s₂) X.xe s₁) X.xe s
theorem nobehind (b : Expr) {op : CmpOp} (h : op ≠ .In) (h2 : op ≠ .NotIn) : behindInMarks op b = false := by
  have e1 : (op == CmpOp.In) = false := by cases op <;> first | rfl | exact absurd rfl h
  have e2 : (op == CmpOp.NotIn) = false := by cases op <;> first | rfl | exact absurd rfl h2
  cases b <;> simp [behindInMarks, e1, e2]
def tCmp (p : Int → Int → Bool) (ta tb : TE) : TE := fun σ H Q => t2I ta tb (fun i j H2 => Q (.bl (p i j)) H2) σ H
abbrev tLt : TE → TE → TE := tCmp fun i j => decide (i < j)
abbrev tLe : TE → TE → TE := tCmp fun i j => decide (i ≤ j)
abbrev tGt : TE → TE → TE := tCmp fun i j => decide (j < i)
abbrev tGe : TE → TE → TE := tCmp fun i j => decide (j ≤ i)
abbrev tEqI : TE → TE → TE := tCmp fun i j => decide (i = j)
abbrev tNeI : TE → TE → TE := tCmp fun i j => !decide (i = j)
def tIsN (ta : TE) : TE := fun σ H Q => ta σ H fun x H1 => Q (.bl (decide (x = .non))) H1
def tNotN (ta : TE) : TE := fun σ H Q => ta σ H fun x H1 => Q (.bl (!decide (x = .non))) H1
def tB (t : TE) : TT := fun σ H Q => t σ H fun x H1 => ∃ c, x = .bl c ∧ Q c H1
theorem pt_cmp {op : CmpOp} {t : TE} (h : PC X op a b t) (h1 : behindInMarks op b = false := by first | exact nobehind _ (by decide) (by decide) | rfl) : PT X (.Compare a [op] [b] pos) (tB t) := by
  intro pins s σ H Q I hw
  refine wpAny_isTrue_Compare1 (thn (h pins s σ H _ I hw) fun v s1 h1 => thn h1 fun u s2 h2 => thn h2 fun c s3 ⟨x, H1, I1, r1, q1⟩ => ?_) h1
  obtain ⟨d, rfl, q⟩ := q1
  cases r1
  exact wpAny_truthy_bool ⟨H1, I1, q⟩
theorem pt_val {e : Expr} {t : TE} (h : PE X e t) (he : ∀ whole, isTrue e X.env whole = (do let v ← whole; standAt e.pos; holding [v] (truthy v)) := by intro _; rfl) : PT X e (tB t) := by
  intro pins s σ H Q I hw
  refine isTrue_plain (thn (h pins s σ H _ I hw) fun v s1 ⟨x, H1, I1, r1, q1⟩ => ?_) (he _)
  obtain ⟨d, rfl, q⟩ := q1
  cases r1
  exact wpAny_truthy_bool ⟨H1, I1, q⟩
variable {tA tB' : TT} {rest : List Expr}
def tAnd (t u : TT) : TT := fun σ H Q => t σ H fun c H1 => if c = true then u σ H1 Q else Q false H1
def tOr (t u : TT) : TT := fun σ H Q => t σ H fun c H1 => if c = true then Q true H1 else u σ H1 Q
def tNot (t : TT) : TT := fun σ H Q => t σ H fun c H1 => Q (!c) H1
theorem pw_and1 (ha : PT X a tA) : PW X (.BoolOp .And [a] pos) tA := by
  intro wh pins s σ H Q I h
  refine isTrue_and (thn (ha pins s σ H Q I h) fun c s1 e => ?_)
  cases c with
  | true => exact isTrue_and_nil e
  | false => exact e
theorem pw_or1 (ha : PT X a tA) : PW X (.BoolOp .Or [a] pos) tA := by
  intro wh pins s σ H Q I h
  refine isTrue_or (thn (ha pins s σ H Q I h) fun c s1 e => ?_)
  cases c with
  | false => exact isTrue_or_nil e
  | true => exact e
theorem pw_and (ha : PT X a tA) (hb : PW X (.BoolOp .And (b :: rest) pos) tB') : PW X (.BoolOp .And (a :: b :: rest) pos) (tAnd tA tB') := by
  intro wh pins s σ H Q I h
  refine isTrue_and (thn (ha pins s σ H _ I h) fun c s1 ⟨H1, I1, q1⟩ => ?_)
  cases c with
  | true => exact hb wh pins s1 σ H1 Q I1 q1
  | false => exact ⟨H1, I1, q1⟩
theorem pw_or (ha : PT X a tA) (hb : PW X (.BoolOp .Or (b :: rest) pos) tB') : PW X (.BoolOp .Or (a :: b :: rest) pos) (tOr tA tB') := by
  intro wh pins s σ H Q I h
  refine isTrue_or (thn (ha pins s σ H _ I h) fun c s1 ⟨H1, I1, q1⟩ => ?_)
  cases c with
  | true => exact ⟨H1, I1, q1⟩
  | false => exact hb wh pins s1 σ H1 Q I1 q1
theorem pt_not (ha : PT X a tA) : PT X (.UnaryOp .Not a pos) (tNot tA) := by
  intro pins s σ H Q I h
  exact isTrue_not (ha pins s σ H (fun c H1 => Q (!c) H1) I h)
def tAndV (ta tb : TE) : TE := fun σ H Q => ta σ H fun x H1 => ∃ c, x = .bl c ∧ if c = true then tb σ H1 Q else Q (.bl false) H1
def tOrV (ta tb : TE) : TE := fun σ H Q => ta σ H fun x H1 => ∃ c, x = .bl c ∧ if c = true then Q (.bl true) H1 else tb σ H1 Q
def tNotV (ta : TE) : TE := fun σ H Q => ta σ H fun x H1 => ∃ c, x = .bl c ∧ Q (.bl (!c)) H1
theorem pe_one {op} {t : TE} (h : PE X a t) : PE X (.BoolOp op [a] pos) t := fun pins s σ H Q I hw => BoolOp_one (h pins s σ H Q I hw)
theorem pe_and (ha : PE X a ta) (hb : PE X (.BoolOp .And (b :: rest) pos) tb) : PE X (.BoolOp .And (a :: b :: rest) pos) (tAndV ta tb) := by
  intro pins s σ H Q I h
  refine BoolOp_and (thn (ha pins s σ H _ I h) fun v s1 ⟨x, H1, I1, r1, q1⟩ => ?_)
  obtain ⟨c, rfl, q1⟩ := q1
  cases r1
  refine wpAny_truthy_bool ?_
  cases c with
  | true => exact hb pins s1 σ H1 Q I1 q1
  | false => exact ⟨.bl false, H1, I1, rfl, q1⟩
theorem pe_not (ha : PE X a ta) : PE X (.UnaryOp .Not a pos) (tNotV ta) := by
  intro pins s σ H Q I h
  refine UnaryOp_ (thn (ha pins s σ H _ I h) fun v s1 ⟨x, H1, I1, r1, q1⟩ => ?_)
  obtain ⟨c, rfl, q1⟩ := q1
  cases r1
  exact not_of (wpAny_truthy_bool ⟨.bl (!c), H1, I1, rfl, q1⟩)
def tIf (t : TT) (ta tb : TE) : TE := fun σ H Q => t σ H fun c H1 => if c = true then ta σ H1 Q else tb σ H1 Q
theorem pe_ifExp {c : Expr} (hc : PT X c tA) (ha : PE X a ta) (hb : PE X b tb) : PE X (.IfExp c a b pos) (tIf tA ta tb) := by
  intro pins s σ H Q I h
  refine wpAny_IfExp (thn (hc pins s σ H _ I h) fun d s1 ⟨H1, I1, q1⟩ => ?_)
  cases d with
  | true => exact ha pins s1 σ H1 Q I1 q1
  | false => exact hb pins s1 σ H1 Q I1 q1
end
end L2
namespace L2
open PySem PySem.Spec PyProof.Rows
def SqL (K : PySem.W.Frag) (H : Hp) (a : Addr) (xs : List V) : Prop :=
  Rd H a (.lst xs) ∨
    ∃ (o : Obj) (its : Array Value) (n : Nat), K.lookup a = some o ∧ o.cls = .type "list" ∧ o.dict = none ∧ o.data = .seq its n ∧ its.size ≤ sizeLine ∧ Vals xs its.toList
def SqT (K : PySem.W.Frag) (H : Hp) (a : Addr) (xs : List V) : Prop :=
  Rd H a (.tup xs) ∨
    ∃ (o : Obj) (its : Array Value) (n : Nat), K.lookup a = some o ∧ o.cls = .type "tuple" ∧ o.data = .seq its n ∧ its.size ≤ sizeLine ∧ Vals xs its.toList
def absV : Value → Option V
  | .none => some .non
  | .bool b => some (.bl b)
  | .int i _ => some (.int i)
  | .str x _ => some (.str x)
  | .bytes b _ => some (.byt b)
  | .float b _ => some (.flt b)
  | .ref a => some (.ref a)
  | .type n => some (.ty n)
  | _ => none
theorem RelV.abs {x : V} {u : Value} (r : RelV x u) : absV u = some x := by
  cases x with
  | non => cases r; rfl
  | bl _ => cases r; rfl
  | int _ => obtain ⟨t, rfl⟩ := r; rfl
  | str _ => obtain ⟨t, rfl⟩ := r; rfl
  | byt _ => obtain ⟨t, rfl⟩ := r; rfl
  | flt _ => obtain ⟨t, rfl⟩ := r; rfl
  | ref _ => cases r; rfl
  | ty _ => cases r; rfl
theorem RelV.inj {x y : V} {u : Value} (r : RelV x u) (q : RelV y u) : x = y := Option.some.inj (r.abs.symm.trans q.abs)
theorem Vals.inj : ∀ {xs ys : List V} {us : List Value}, Vals xs us → Vals ys us → xs = ys
  | _, _, _, .nil, .nil => rfl
  | _, _, _, .cons r t, .cons r' t' => by rw [r.inj r', Vals.inj t t']
section
variable {X : Cx} {pins : List (Addr × Obj)} {σ : St} {H : Hp} {s : Shared} {a : Addr} {xs ys : List V}
theorem SqL.of {K : PySem.W.Frag} (h : H a = some (.lst xs)) : SqL K H a xs := .inl (.inl h)
theorem SqT.of {K : PySem.W.Frag} (h : H a = some (.tup xs)) : SqT K H a xs := .inl (.inl h)
theorem Inv.list (I : Inv X pins σ H s) (h : SqL X.K H a xs) : ∃ its : List Value, Vals xs its ∧ PlainL s.heap a its.toArray ∧ xs.length ≤ sizeLine := by
  rcases h with h | ⟨o, its, n, hk, hc, hd, hs, hz, r⟩
  · obtain ⟨z, its, n, r, e⟩ := h.ok I.hok
    exact ⟨its, r, ⟨_, n, e, rfl, rfl, rfl⟩, z⟩
  · refine ⟨its.toList, r, ⟨o, n, I.kIn a o hk, hc, hd, by simpa using hs⟩, ?_⟩
    have e := r.length
    simp only [Array.length_toList] at e
    omega
theorem Inv.tuple (I : Inv X pins σ H s) (h : SqT X.K H a xs) : ∃ its : List Value, Vals xs its ∧ IsTup s.heap a its.toArray ∧ xs.length ≤ sizeLine := by
  rcases h with h | ⟨o, its, n, hk, hc, hs, hz, r⟩
  · obtain ⟨z, its, r, p⟩ := h.ok I.hok
    exact ⟨its, r, p, z⟩
  · refine ⟨its.toList, r, ⟨o, I.kIn a o hk, hc, n, by simpa using hs⟩, ?_⟩
    have e := r.length
    simp only [Array.length_toList] at e
    omega
theorem Inv.list_inj (I : Inv X pins σ H s) (h : SqL X.K H a xs) (h' : SqL X.K H a ys) : xs = ys := by
  obtain ⟨its, r, ⟨o, n, e, _, _, d⟩, _⟩ := I.list h
  obtain ⟨its', r', ⟨o', n', e', _, _, d'⟩, _⟩ := I.list h'
  rw [e] at e'; cases e'
  rw [d] at d'
  injection d' with d1 _
  have : its = its' := by simpa using congrArg Array.toList d1
  subst this
  exact r.inj r'
theorem Inv.tuple_inj (I : Inv X pins σ H s) (h : SqT X.K H a xs) (h' : SqT X.K H a ys) : xs = ys := by
  obtain ⟨its, r, ⟨o, e, _, n, d⟩, _⟩ := I.tuple h
  obtain ⟨its', r', ⟨o', e', _, n', d'⟩, _⟩ := I.tuple h'
  rw [e] at e'; cases e'
  rw [d] at d'
  injection d' with d1 _
  have : its = its' := by simpa using congrArg Array.toList d1
  subst this
  exact r.inj r'
end
abbrev Cx.wish (X : Cx) (E : Value → Shared → Prop) : Cx := { X with xe := E }
abbrev Cx.nox (X : Cx) : Cx := X.wish fun _ _ => False
theorem Cx.Ok.wish {X : Cx} (ok : X.Ok) (E : Value → Shared → Prop) : (X.wish E).Ok :=
  ⟨ok.mod, ok.kind, ok.glob, ok.blt, ok.above, ok.inj, ok.has, ok.cab, ok.hd, ok.frames, ok.stk, ok.exf, ok.bs, ok.bsz, ok.noex, ok.exfs, ok.funs, ok.frf⟩
theorem Cx.Ok.unwish {X : Cx} {E : Value → Shared → Prop} (ok : (X.wish E).Ok) : X.Ok :=
  ⟨ok.mod, ok.kind, ok.glob, ok.blt, ok.above, ok.inj, ok.has, ok.cab, ok.hd, ok.frames, ok.stk, ok.exf, ok.bs, ok.bsz, ok.noex, ok.exfs, ok.funs, ok.frf⟩
section
variable {X : Cx} {pins : List (Addr × Obj)} {σ : St} {H : Hp} {s : Shared} {E : Value → Shared → Prop}
theorem Inv.wish (I : Inv X pins σ H s) (E : Value → Shared → Prop) : Inv (X.wish E) pins σ H s := ⟨I.ok.wish E, I.os, I.bare, I.base, I.loc, I.cell, I.free, I.freeC, I.pin, I.hok, I.len⟩
theorem Inv.unwish (I : Inv (X.wish E) pins σ H s) : Inv X pins σ H s := ⟨I.ok.unwish, I.os, I.bare, I.base, I.loc, I.cell, I.free, I.freeC, I.pin, I.hok, I.len⟩
theorem SP.unwish {D : Ends} {f : Flow} {s' : Shared} (h : SP (X.wish E) pins D f s') : SP X pins D f s' := by
  cases f with
  | next => obtain ⟨σ', H', I, q⟩ := h; exact ⟨σ', H', I.unwish, q⟩
  | brk => obtain ⟨σ', H', I, q⟩ := h; exact ⟨σ', H', I.unwish, q⟩
  | cont => obtain ⟨σ', H', I, q⟩ := h; exact ⟨σ', H', I.unwish, q⟩
  | ret u => obtain ⟨v, σ', H', I, r, q⟩ := h; exact ⟨v, σ', H', I.unwish, r, q⟩
theorem PE.nox {e : Expr} {t : TE} (h : PE X.nox e t) : PE X e t := fun pins s σ H Q I hw =>
  wpAny_mono (h pins s σ H Q (I.wish _) hw) (fun _ _ ⟨v, H', I', r, q⟩ => ⟨v, H', I'.unwish, r, q⟩) fun _ _ z => False.elim z
theorem PT.nox {e : Expr} {t : TT} (h : PT X.nox e t) : PT X e t := fun pins s σ H Q I hw =>
  wpAny_mono (h pins s σ H Q (I.wish _) hw) (fun _ _ ⟨H', I', q⟩ => ⟨H', I'.unwish, q⟩) fun _ _ z => False.elim z
theorem PSs.nox {st : List Stmt} {t : TS} (h : PSs X.nox st t) : PSs X st t := fun pins s σ H D I hw =>
  wpAny_mono (h pins s σ H D (I.wish _) hw) (fun _ _ q => q.unwish) fun _ _ z => False.elim z
end
section
variable {X : Cx} {st : Stmt} {rest : List Stmt} {t u : TS} {e : Expr} {te : TE} {pos : Pos}
def tNext : TS := fun D σ H => D.nx σ H
def tSeq (t u : TS) : TS := fun D σ H => t { D with nx := u D } σ H
theorem pss_nil : PSs X [] tNext := fun _ _ σ H _ I h => wpAny_execs_nil ⟨σ, H, I, h⟩
theorem pss_cons (h1 : PS X st t) (h2 : PSs X rest u) : PSs X (st :: rest) (tSeq t u) := by
  intro pins s σ H D I h
  refine wpAny_execs_cons (thn (h1 pins s σ H { D with nx := u D } I h) fun f s1 q => ?_)
  cases f with
  | next =>
    obtain ⟨σ', H', I', q⟩ := q
    exact h2 pins s1 σ' H' D I' q
  | ret v => exact q
  | brk => exact q
  | cont => exact q
theorem pss_one (h1 : PS X st t) : PSs X [st] t := by
  intro pins s σ H D I h
  refine wpAny_execs_cons (thn (h1 pins s σ H D I h) fun f s1 q => ?_)
  cases f with
  | next => exact wpAny_execs_nil q
  | ret v => exact q
  | brk => exact q
  | cont => exact q
def tBreak : TS := fun D σ H => D.bk σ H
def tCont : TS := fun D σ H => D.ct σ H
theorem Inv.quiet {pins : List (Addr × Obj)} {σ : St} {H : Hp} {s : Shared} (I : Inv X pins σ H s) : interactive X.env = false := by simp [interactive, I.ok.kind]
def tDrop (te : TE) : TS := fun D σ H => te σ H fun _ H1 => D.nx σ H1
theorem ps_expr (he : PE X e te) (hs : swapsWith e none pos.line X.env = pure false := by rfl) : PS X (.Expr e pos) (tDrop te) := by
  intro pins s σ H D I h
  exact wpAny_Expr_any (thn (he pins s σ H _ I h) fun v s1 ⟨x, H1, I1, r1, q1⟩ => ⟨σ, H1, I1, q1⟩) I.quiet hs
def tRet (te : TE) : TS := fun D σ H => te σ H D.rt
theorem ps_ret (he : PE X e te) : PS X (.Return (some e) pos) (tRet te) := by
  intro pins s σ H D I h
  exact wpAny_Return_some (thn (he pins s σ H _ I h) fun v s1 ⟨x, H1, I1, r1, q1⟩ => ⟨x, σ, H1, I1, r1, q1⟩)
def tRetN : TS := fun D _ H => D.rt .non H
def tIfS (c : TT) (t u : TS) : TS := fun D σ H => c σ H fun b H1 => if b = true then t D σ H1 else u D σ H1
theorem ps_if {c : Expr} {a b : List Stmt} {tc : TT} (hc : PT X c tc) (ha : PSs X a t) (hb : PSs X b u) : PS X (.If c a b pos) (tIfS tc t u) := by
  intro pins s σ H D I h
  refine wpAny_If (thn (hc pins s σ H _ I h) fun d s1 ⟨H1, I1, q1⟩ => ?_)
  cases d with
  | true => exact ha pins s1 σ H1 D I1 q1
  | false => exact hb pins s1 σ H1 D I1 q1
def tNever : TS := fun _ _ _ => False
theorem ps_never : PS X st tNever := fun _ _ _ _ _ _ h => h.elim
end
abbrev TG := V → St → Hp → (St → Hp → Prop) → Prop
abbrev TGs := List V → St → Hp → (St → Hp → Prop) → Prop
def PG (X : Cx) (target : Expr) (t : TG) : Prop :=
  ∀ (pins : List (Addr × Obj)) (s : Shared) (σ : St) (H : Hp) (v : V) (u : Value) (Q : St → Hp → Prop), Inv X pins σ H s → RelV v u → t v σ H Q →
    wpAny (model X.prog X.w) X.A (assign target X.env u) (fun _ s' => ∃ σ' H', Inv X pins σ' H' s' ∧ Q σ' H') X.xe s
def PGs (X : Cx) (ts : List Expr) (t : TGs) : Prop :=
  ∀ (pins : List (Addr × Obj)) (s : Shared) (σ : St) (H : Hp) (vs : List V) (us : List Value) (Q : St → Hp → Prop), Inv X pins σ H s → Vals vs us → t vs σ H Q →
    wpAny (model X.prog X.w) X.A (assignInOrder ((assignEach ts X.env).map (·.2)) us) (fun _ s' => ∃ σ' H', Inv X pins σ' H' s' ∧ Q σ' H') X.xe s
abbrev TSet := V → V → V → Hp → (Hp → Prop) → Prop
def PSet (X : Cx) (t : TSet) : Prop :=
  ∀ (pins : List (Addr × Obj)) (s : Shared) (σ : St) (H : Hp) (o i v : V) (ov iv u : Value) (Q : Hp → Prop), Inv X pins σ H s → RelV o ov → RelV i iv → RelV v u → t o i v H Q →
    wpAny (model X.prog X.w) X.A (setItem ov iv u) (fun _ s' => ∃ H', Inv X pins σ H' s' ∧ Q H') X.xe s
abbrev TIp := V → V → Hp → VK → Prop
def PIp (X : Cx) (op : Operator) (t : TIp) : Prop :=
  ∀ (pins : List (Addr × Obj)) (s : Shared) (σ : St) (H : Hp) (x y : V) (v u : Value) (Q : VK), Inv X pins σ H s → RelV x v → RelV y u → t x y H Q →
    wpAny (model X.prog X.w) X.A (inplaceOp op v u) (EP X pins σ Q) X.xe s
section
variable {X : Cx} {pos : Pos}
def gName (i : Nat) : TG := fun v σ H Q => Q (σ.set i (some v)) H
theorem pg_name {i : Nat} {x : Str} (hN : X.N.Nodup) (hi : X.N[i]? = some x) (hx : Loc X.env.scope x) (hf : X.fn x = true ∨ X.env.scope.names.lookup x = some .local := by first | exact .inl rfl | exact .inr rfl | assumption) : PG X (.Name x pos) (gName i) := by
  intro pins s σ H v u Q I r h
  exact wpAny_assign_Name (store_ok I hN hi hx r (fun s' I' => ⟨_, H, I', h⟩) hf)
def gNil : TGs := fun vs σ H Q => vs = [] ∧ Q σ H
def gCons (t : TG) (u : TGs) : TGs := fun vs σ H Q => ∃ v r, vs = v :: r ∧ t v σ H fun σ' H' => u r σ' H' Q
theorem pgs_nil : PGs X [] gNil := by
  intro pins s σ H vs us Q I r h
  obtain ⟨e, h⟩ := h
  subst e
  cases r
  exact assignInOrder_nil ⟨σ, H, I, h⟩
theorem pgs_cons {e : Expr} {es : List Expr} {t : TG} {u : TGs} (h1 : PG X e t) (h2 : PGs X es u)
    (hs : (assignEach (e :: es) X.env).map (·.2) = assign e X.env :: (assignEach es X.env).map (·.2) := by rfl) : PGs X (e :: es) (gCons t u) := by
  intro pins s σ H vs us Q I r h
  obtain ⟨v, vr, e1, h⟩ := h
  subst e1
  cases r with
  | cons r rr =>
    rw [hs]
    refine assignInOrder_cons (thn (h1 pins s σ H _ _ _ I r h) fun _ s1 ⟨σ1, H1, I1, q1⟩ => ?_)
    exact h2 pins s1 σ1 H1 _ _ Q I1 rr q1
def gTup (K : PySem.W.Frag) (n : Nat) (t : TGs) : TG := fun v σ H Q => ∃ a xs, v = .ref a ∧ SqT K H a xs ∧ xs.length = n ∧ t xs σ H Q
theorem pg_tup {es : List Expr} {k : Nat} {t : TGs} {n : Nat} (hc : X.calm = true) (h : PGs X es t)
    (hn : (assignEach es X.env).length = n := by rfl) (hst : (assignEach es X.env).findIdx? (·.1) = none := by rfl) : PG X (.Tuple es k pos) (gTup X.K n t) := by
  intro pins s σ H v u Q I r hw
  obtain ⟨a, xs, e1, hq, hl, hw⟩ := hw
  subst e1
  cases r
  obtain ⟨its, rv, ht, hz⟩ := I.tuple hq
  refine assign_Tuple_tuple (I.ok.hd hc) ht (by simp [hn, ← hl, rv.length]) hst fun h' hx => ?_
  have I1 : Inv X pins σ H { s with heap := h' } := I.kept (t' := s.toks) fun b o e => hx b o (Nat.ne_of_lt (Heap.lt_size e)) e
  exact h pins _ σ H xs _ Q I1 (by simpa using rv) hw
def gSub (to ti : TE) (t : TSet) : TG := fun v σ H Q => to σ H fun o H1 => ti σ H1 fun i H2 => t o i v H2 fun H3 => Q σ H3
def tAsg (te : TE) (g : TG) : TS := fun D σ H => te σ H fun x H1 => g x σ H1 D.nx
theorem ps_set {i : Nat} {x : Str} {e : Expr} {te : TE} {pos' : Pos} (hN : X.N.Nodup) (hi : X.N[i]? = some x) (hx : Loc X.env.scope x) (he : PE X e te) (hs : swapsWith e (some (.Name x pos')) pos.line X.env = pure false := by rfl) (hf : X.fn x = true ∨ X.env.scope.names.lookup x = some .local := by first | exact .inl rfl | exact .inr rfl | assumption) :
    PS X (.Assign [.Name x pos'] e pos) (tAsg te (gName i)) := by
  intro pins s σ H D I h
  refine wpAny_Assign_Name (thn (he pins s σ H _ I h) fun v s1 ⟨y, H1, I1, r1, q1⟩ => ?_) hs
  exact store_ok I1 hN hi hx r1 (fun s2 I2 => ⟨_, H1, I2, q1⟩) hf
def tPar (i j : Nat) (ta : TA) : TS := fun D σ H => ta σ H fun vs H1 => ∃ v w, vs = [v, w] ∧ D.nx ((σ.set i (some v)).set j (some w)) H1
def tAug (i : Nat) (te : TE) (ti : TIp) : TS := fun D σ H => ∃ x, σ[i]? = some (some x) ∧ te σ H fun y H1 => ti x y H1 fun z H2 => D.nx (σ.set i (some z)) H2
def tAugS (to ti te : TE) (tget : V → V → Hp → VK → Prop) (tip : TIp) (tset : TSet) : TS := fun D σ H => to σ H fun o H1 => ti σ H1 fun i H2 => tget o i H2 fun x H3 => te σ H3 fun y H4 => tip x y H4 fun z H5 => tset o i z H5 fun H6 => D.nx σ H6
def PGet (X : Cx) (t : V → V → Hp → VK → Prop) : Prop :=
  ∀ (pins : List (Addr × Obj)) (s : Shared) (σ : St) (H : Hp) (o i : V) (ov iv : Value) (Q : VK), Inv X pins σ H s → RelV o ov → RelV i iv → t o i H Q →
    wpAny (model X.prog X.w) X.A (getItem ov iv) (EP X pins σ Q) X.xe s
def ipI (f : Int → Int → Int) : TIp := fun x y H Q => ∃ i j, x = .int i ∧ y = .int j ∧ Q (.int (f i j)) H
end
section
variable {X : Cx} {pos : Pos}
def tWhile (c : TT) (tb : TS) : TS := fun D σ H => ∃ W : Nat → St → Hp → Prop, (∃ m, W m σ H) ∧ ∀ m σ H, W m σ H →
  c σ H fun b H1 => if b = true then ∃ N : St → Hp → Prop, (∀ σ' H', N σ' H' → ∃ m', m' < m ∧ W m' σ' H') ∧ tb { D with nx := N, ct := N, bk := D.nx } σ H1 else D.nx σ H1
theorem ps_while {c : Expr} {body : List Stmt} {tc : TT} {tb : TS} (hp : PassesOwn (model X.prog X.w) X.A X.env X.xe) (hc : PT X c tc) (hb : PSs X body tb) : PS X (.While c body [] pos) (tWhile tc tb) := by
  intro pins s σ H D I h
  obtain ⟨W, ⟨m0, w0⟩, turn⟩ := h
  refine wpAny_While (codeAny_whileLoop (fun n s' => ∃ σ' H', Inv X pins σ' H' s' ∧ W n σ' H') ?_ m0 ⟨σ, H, I, w0⟩)
  rintro n s1 ⟨σ1, H1, I1, w1⟩
  refine wpAny_passesOwn hp (thn (hc pins s1 σ1 H1 _ I1 (turn n σ1 H1 w1)) fun b s2 ⟨H2, I2, q2⟩ => ?_)
  cases b with
  | true =>
    obtain ⟨N, hN, q2⟩ := q2
    rw [if_pos rfl]
    refine wpAny_passesOwn hp (thn (hb pins s2 σ1 H2 _ I2 q2) fun f s3 q3 => ?_)
    cases f with
    | next =>
      obtain ⟨σ3, H3, I3, n3⟩ := q3
      obtain ⟨m', hm, w3⟩ := hN σ3 H3 n3
      exact ⟨m', hm, σ3, H3, I3, w3⟩
    | cont =>
      obtain ⟨σ3, H3, I3, n3⟩ := q3
      obtain ⟨m', hm, w3⟩ := hN σ3 H3 n3
      exact ⟨m', hm, σ3, H3, I3, w3⟩
    | brk => exact q3
    | ret v => exact q3
  | false =>
    rw [if_neg Bool.false_ne_true]
    exact wpAny_execs_nil ⟨σ1, H2, I2, q2⟩
end
structure It where
  go : Nat → Hp → Prop
  yld : Nat → Hp → V → Hp → Prop
  stop : Nat → Hp → Prop
def FpOk (X : Cx) (pins : List (Addr × Obj)) (H : Hp) (b : Addr) : Prop :=
  H b = none ∧ b ≠ X.env.locals ∧ b ∉ X.fs ∧ (b ∈ X.ex ∨ X.s₀.heap.objs.size ≤ b) ∧ (∀ x c, X.env.cells.lookup x = some c → c ≠ b) ∧ ∀ p ∈ X.pn ++ pins, p.1 ≠ b
theorem Inv.fpOk {X : Cx} {pins : List (Addr × Obj)} {σ : St} {H H' : Hp} {s : Shared} {b : Addr} (I : Inv X pins σ H s) (hb : s.heap.objs.size ≤ b) (hn : H' b = none) : FpOk X pins H' b := by
  refine ⟨hn, Nat.ne_of_gt (Nat.lt_of_lt_of_le I.lt hb), I.nofs hb, .inr (Nat.le_trans I.sz hb), fun x c e z => ?_, fun p hp z => ?_⟩
  · obtain ⟨v, q⟩ := I.cell x c e
    exact absurd (Nat.lt_of_lt_of_le q.lt (by rw [z]; exact hb)) (Nat.lt_irrefl _)
  · exact absurd (Nat.lt_of_lt_of_le (Heap.lt_size (I.pin p hp).1) (by rw [z]; exact hb)) (Nat.lt_irrefl _)
structure Turn (P : Program) (w : World) (K : PySem.W.Frag) (tg : Expr) (J : It) (fp : List Addr) (it : Addr) (tn : Nat → Heap → Prop) : Prop where
  mem : it ∈ fp
  obj : ∀ i h, tn i h → ∀ b ∈ fp, ∃ o, h.get? b = some o ∧ ∀ v, o.data ≠ .cell v
  keep : ∀ i h h', tn i h → (∀ b ∈ fp, ∀ o, h.get? b = some o → h'.get? b = some o) → tn i h'
  item : ∀ (X : Cx), X.prog = P → X.w = w → X.K = K → X.calm = true → ∀ (i : Nat) (pins : List (Addr × Obj)) (s : Shared) (σ : St) (H : Hp) (E : Value → Shared → Prop), Inv X pins σ H s → (∀ b ∈ fp, FpOk X pins H b) → tn i s.heap → J.go i H →
    wpAny (model P w) X.A (pyNext (.ref it)) (fun r s1 => ∃ u, r = some u ∧
      wpAny (model P w) X.A (letOwnedTupleGo tg (.ref it) u) (fun _ s2 => ∃ x H', Inv X pins σ H' s2 ∧ RelV x u ∧ J.yld i H x H' ∧ tn (i + 1) s2.heap ∧ ∀ b ∈ fp, H' b = none) E s1) E s
  done : ∀ (X : Cx), X.prog = P → X.w = w → X.K = K → X.calm = true → ∀ (i : Nat) (pins : List (Addr × Obj)) (s : Shared) (σ : St) (H : Hp) (E : Value → Shared → Prop), Inv X pins σ H s → (∀ b ∈ fp, FpOk X pins H b) → tn i s.heap → J.stop i H →
    wpAny (model P w) X.A (pyNext (.ref it)) (fun r s1 => r = none ∧ Inv X pins σ H s1) E s
  self : ∀ (A : Around) (i : Nat) (s : Shared) (Q : Value → Shared → Prop) (E : Value → Shared → Prop), tn i s.heap → Q (.ref it) s → wpAny (model P w) A (pyIter (.ref it)) Q E s
abbrev TI := St → Hp → (It → Hp → Prop) → Prop
def PIE (X : Cx) (pins : List (Addr × Obj)) (σ : St) (tg : Expr) (R : It → Hp → Prop) (itv : Value) (s2 : Shared) : Prop :=
  ∃ (it : Addr) (fp : List Addr) (tn : Nat → Heap → Prop) (J : It) (H' : Hp), itv = .ref it ∧ Inv X pins σ H' s2 ∧ Turn X.prog X.w X.K tg J fp it tn ∧ tn 0 s2.heap ∧ (∀ b ∈ fp, FpOk X pins H' b) ∧ R J H'
def PI (X : Cx) (tg iter : Expr) (wi : TI) : Prop :=
  ∀ (pins : List (Addr × Obj)) (s : Shared) (σ : St) (H : Hp) (R : It → Hp → Prop), Inv X pins σ H s → wi σ H R →
    wpAny (model X.prog X.w) X.A (eval iter X.env) (fun v s1 => wpAny (model X.prog X.w) X.A (pyIter v) (PIE X pins σ tg R) X.xe s1) X.xe s
theorem go_of {M : Model} {A : Around} {E : Value → Shared → Prop} {s : Shared} {tg : Expr} {it : Addr} {u : Value} {o : Obj} {n : String} {vs : Array Value} {Q : Unit → Shared → Prop} (ho : s.heap.get? it = some o) (hc : o.cls = .type n) (hd : o.data = .fields vs)
    (hn : ["enumerate", "zip", "dict_itemiterator", "dict_reverseitemiterator", "odict_iterator", "itertools.zip_longest", "itertools.pairwise"].contains n = false) (hQ : Q () s) : wpAny M A (letOwnedTupleGo tg (.ref it) u) Q E s := by
  unfold letOwnedTupleGo
  cases tg <;> first
    | exact wpAny_pure hQ
    | (cases u <;> first
        | exact wpAny_pure hQ
        | (refine wpAny_bind (wpAny_load ho ?_)
           rw [hc, hd]
           show wpAny M A (if (["enumerate", "zip", "dict_itemiterator", "dict_reverseitemiterator", "odict_iterator", "itertools.zip_longest", "itertools.pairwise"].contains n && vs[0]? == some (rawInt _)) = true then _ else _) Q E s
           rw [if_neg (by intro h; rw [hn, Bool.false_and] at h; cases h)]
           exact wpAny_pure hQ))
def Itl (K : PySem.W.Frag) (a : Addr) : It :=
  ⟨fun i H => ∃ xs x, SqL K H a xs ∧ xs[i]? = some x, fun i H x H' => H' = H ∧ ∀ xs, SqL K H a xs → xs[i]? = some x, fun i H => ∃ xs, SqL K H a xs ∧ xs.length ≤ i⟩
def Itt (K : PySem.W.Frag) (a : Addr) : It :=
  ⟨fun i H => ∃ xs x, SqT K H a xs ∧ xs[i]? = some x, fun i H x H' => H' = H ∧ ∀ xs, SqT K H a xs → xs[i]? = some x, fun i H => ∃ xs, SqT K H a xs ∧ xs.length ≤ i⟩
def Itr (lo : Int) (n : Nat) : It := ⟨fun i _ => i < n, fun i H x H' => H' = H ∧ x = .int (lo + i), fun i _ => n ≤ i⟩
theorem turn_list {P : Program} {w : World} {K : PySem.W.Frag} {tg : Expr} (a it : Addr) : Turn P w K tg (Itl K a) [it] it (fun i h => h.IsListIter it a i) where
  mem := by simp
  obj := fun i h st b hb => by
    have e : b = it := by simpa using hb
    subst e
    obtain ⟨o, e, c, d⟩ := st
    exact ⟨o, e, fun v z => by rw [d] at z; cases z⟩
  keep := fun i h h' st k => st.at fun o e => k it (by simp) o e
  item := by
    intro X hP hw hK hc i pins s σ H E I hf st hg
    subst hP hw hK
    obtain ⟨xs, x, hq, hx⟩ := hg
    obtain ⟨its, rv, p, hz⟩ := I.list hq
    obtain ⟨u, hu, ru⟩ := rv.get hx
    obtain ⟨f0, f1, f2, f3, f4, f5⟩ := hf it (by simp)
    refine wpAny_pyNext_list_item st p.isList (x := u) (by simpa using hu) fun h' st' sb => ?_
    have I1 : Inv X pins σ H { s with heap := h' } := I.turned (t' := s.toks) (fun b o hb e => (sb.2 b hb).trans e) f0 f1 f3 f4 f5
    obtain ⟨o, e, c, d⟩ := id st'
    exact ⟨u, rfl, go_of (s := { s with heap := h' }) e c d (by decide) ⟨x, H, I1, ru, ⟨rfl, fun ys hy => by rw [I.list_inj hy hq]; exact hx⟩, st', fun b hb => (hf b hb).1⟩⟩
  done := by
    intro X hP hw hK hc i pins s σ H E I hf st hg
    subst hP hw hK
    obtain ⟨xs, hq, hx⟩ := hg
    obtain ⟨its, rv, p, hz⟩ := I.list hq
    obtain ⟨f0, f1, f2, f3, f4, f5⟩ := hf it (by simp)
    have hl := rv.length
    exact wpAny_pyNext_list_end (I.ok.hd hc) st p.isList (by simp; omega) fun h' eb => ⟨rfl, I.turned (t' := s.toks) (fun b o hb e => eb b o hb e) f0 f1 f3 f4 f5⟩
  self := fun _ _ _ _ _ st h => wpAny_pyIter_listiter st h
theorem turn_tuple {P : Program} {w : World} {K : PySem.W.Frag} {tg : Expr} (a it : Addr) : Turn P w K tg (Itt K a) [it] it (fun i h => h.IsTupleIter it a i) where
  mem := by simp
  obj := fun i h st b hb => by
    have e : b = it := by simpa using hb
    subst e
    obtain ⟨o, e, c, d⟩ := st
    exact ⟨o, e, fun v z => by rw [d] at z; cases z⟩
  keep := fun i h h' st k => st.at fun o e => k it (by simp) o e
  item := by
    intro X hP hw hK hc i pins s σ H E I hf st hg
    subst hP hw hK
    obtain ⟨xs, x, hq, hx⟩ := hg
    obtain ⟨its, rv, p, hz⟩ := I.tuple hq
    obtain ⟨u, hu, ru⟩ := rv.get hx
    obtain ⟨f0, f1, f2, f3, f4, f5⟩ := hf it (by simp)
    refine wpAny_pyNext_tuple_item st (show s.heap.IsTuple a its.toArray from p) (x := u) (by simpa using hu) fun h' st' sb => ?_
    have I1 : Inv X pins σ H { s with heap := h' } := I.turned (t' := s.toks) (fun b o hb e => (sb.2 b hb).trans e) f0 f1 f3 f4 f5
    obtain ⟨o, e, c, d⟩ := id st'
    exact ⟨u, rfl, go_of (s := { s with heap := h' }) e c d (by decide) ⟨x, H, I1, ru, ⟨rfl, fun ys hy => by rw [I.tuple_inj hy hq]; exact hx⟩, st', fun b hb => (hf b hb).1⟩⟩
  done := by
    intro X hP hw hK hc i pins s σ H E I hf st hg
    subst hP hw hK
    obtain ⟨xs, hq, hx⟩ := hg
    obtain ⟨its, rv, p, hz⟩ := I.tuple hq
    obtain ⟨f0, f1, f2, f3, f4, f5⟩ := hf it (by simp)
    have hl := rv.length
    exact wpAny_pyNext_tuple_end (I.ok.hd hc) st (show s.heap.IsTuple a its.toArray from p) (by simp; omega) fun h' eb => ⟨rfl, I.turned (t' := s.toks) (fun b o hb e => eb b o hb e) f0 f1 f3 f4 f5⟩
  self := fun _ _ _ _ _ st h => wpAny_pyIter_tupleiter st h
theorem turn_range {P : Program} {w : World} {K : PySem.W.Frag} {tg : Expr} (it : Addr) (lo : Int) (n : Nat) : Turn P w K tg (Itr lo n) [it] it (fun i h => IsRangeIter h it (lo + (i : Nat) * 1) ((n : Int) - (i : Nat)) 1) where
  mem := by simp
  obj := fun i h st b hb => by
    have e : b = it := by simpa using hb
    subst e
    exact ⟨_, st, fun v z => by
      have z' : Data.fields _ = Data.cell v := z
      cases z'⟩
  keep := fun i h h' st k => k it (by simp) _ st
  item := by
    intro X hP hw hK hc i pins s σ H E I hf st hg
    subst hP hw hK
    obtain ⟨f0, f1, f2, f3, f4, f5⟩ := hf it (by simp)
    have W := Walks.range (prog := X.prog) (w := X.w) (I.ok.hd hc) it lo 1 n
    refine W.item i s _ _ hg st fun v h' tk hv st' kk => ?_
    obtain ⟨t, rfl⟩ := hv
    have I1 : Inv X pins σ H { s with heap := h', toks := tk } := I.turned (fun b o hb e => kk b o (by simpa using hb) e) f0 f1 f3 f4 f5
    refine ⟨_, rfl, go_of (s := { s with heap := h', toks := tk }) (n := "range_iterator") st' rfl rfl (by decide) ⟨.int (lo + i), H, I1, ⟨t, ?_⟩, ⟨rfl, rfl⟩, st', fun b hb => (hf b hb).1⟩⟩
    rw [Int.mul_one]
  done := by
    intro X hP hw hK hc i pins s σ H E I hf st hg
    subst hP hw hK
    obtain ⟨f0, f1, f2, f3, f4, f5⟩ := hf it (by simp)
    exact wpAny_pyNext_range_end (I.ok.hd hc) st (by have : n ≤ i := hg; omega) fun h' eb => ⟨rfl, I.turned (t' := s.toks) (fun b o hb e => eb b o hb e) f0 f1 f3 f4 f5⟩
  self := fun _ _ _ _ _ st h => wpAny_pyIter_rangeiter st h
end L2
namespace L2
open PySem PySem.Spec PyProof.Rows
section
variable {X : Cx} {tg : Expr}
def iList (K : PySem.W.Frag) (tl : TE) : TI := fun σ H R => tl σ H fun x H1 => ∃ a, x = .ref a ∧ (∃ xs, SqL K H1 a xs) ∧ R (Itl K a) H1
def iTup (K : PySem.W.Frag) (tl : TE) : TI := fun σ H R => tl σ H fun x H1 => ∃ a, x = .ref a ∧ (∃ xs, SqT K H1 a xs) ∧ R (Itt K a) H1
theorem pi_list {l : Expr} {tl : TE} (hl : PE X l tl) : PI X tg l (iList X.K tl) := by
  intro pins s σ H R I h
  refine thn (hl pins s σ H _ I h) fun v s1 ⟨x, H1, I1, r1, q1⟩ => ?_
  obtain ⟨a, e, ⟨xs, hq⟩, q⟩ := q1
  subst e
  cases r1
  obtain ⟨its, rv, p, hz⟩ := I1.list hq
  refine wpAny_pyIter_list p.isList ?_
  refine ⟨s1.heap.objs.size, [s1.heap.objs.size], _, _, H1, rfl, I1.kept (t' := s1.toks) fun b o e => Heap.get?_push_of_some _ e, turn_list a _, ⟨_, Heap.get?_push_size _ rfl, rfl, rfl⟩, fun b hb => ?_, q⟩
  have e : b = s1.heap.objs.size := by simpa using hb
  subst e
  exact I1.fpOk (Nat.le_refl _) (I1.hok.fresh (Nat.le_refl _))
theorem pi_tup {l : Expr} {tl : TE} (hl : PE X l tl) : PI X tg l (iTup X.K tl) := by
  intro pins s σ H R I h
  refine thn (hl pins s σ H _ I h) fun v s1 ⟨x, H1, I1, r1, q1⟩ => ?_
  obtain ⟨a, e, ⟨xs, hq⟩, q⟩ := q1
  subst e
  cases r1
  obtain ⟨its, rv, p, hz⟩ := I1.tuple hq
  refine wpAny_pyIter_tuple (show s1.heap.IsTuple a its.toArray from p) ?_
  refine ⟨s1.heap.objs.size, [s1.heap.objs.size], _, _, H1, rfl, I1.kept (t' := s1.toks) fun b o e => Heap.get?_push_of_some _ e, turn_tuple a _, ⟨_, Heap.get?_push_size _ rfl, rfl, rfl⟩, fun b hb => ?_, q⟩
  have e : b = s1.heap.objs.size := by simpa using hb
  subst e
  exact I1.fpOk (Nat.le_refl _) (I1.hok.fresh (Nat.le_refl _))
theorem range_it {pins : List (Addr × Obj)} {σ : St} {H : Hp} {s : Shared} {R : It → Hp → Prop} {E : Value → Shared → Prop} {lo hi : Int} {t u v : Tok} {tk : Nat} (I : Inv X pins σ H s) (h1 : -(2 ^ 62) ≤ lo) (h2 : lo < 2 ^ 62) (h3 : -(2 ^ 62) ≤ hi) (h4 : hi < 2 ^ 62)
    (q : R (Itr lo (hi - lo).toNat) H) : wpAny (model X.prog X.w) X.A (pyIter (.ref s.heap.objs.size)) (PIE X pins σ tg R) E { s with heap := s.heap.push { cls := .type "range", data := .fields #[.int lo t, .int hi u, .int 1 v] }, toks := tk } := by
  refine wpAny_pyIter_range (IsRange.new ..) (small_one h1 h2 h3 h4) ?_
  have I1 : Inv X pins σ H { s with heap := s.heap.push { cls := .type "range", data := .fields #[.int lo t, .int hi u, .int 1 v] }, toks := tk } := I.kept fun b o e => Heap.get?_push_of_some _ e
  refine ⟨(s.heap.push { cls := .type "range", data := .fields #[.int lo t, .int hi u, .int 1 v] }).objs.size, [(s.heap.push { cls := .type "range", data := .fields #[.int lo t, .int hi u, .int 1 v] }).objs.size], _, _, H, rfl,
    I1.kept (t' := tk) fun b o e => Heap.get?_push_of_some _ e, turn_range _ lo (hi - lo).toNat, ?_, fun b hb => ?_, q⟩
  · have e1 : lo + ((0 : Nat) : Int) * 1 = lo := by simp
    have e2 : (((hi - lo).toNat : Nat) : Int) - ((0 : Nat) : Int) = Builtin.Range.rangeSize lo hi 1 := by rw [rangeSize_one]; split <;> omega
    show IsRangeIter _ _ (lo + ((0 : Nat) : Int) * 1) ((((hi - lo).toNat : Nat) : Int) - ((0 : Nat) : Int)) 1
    rw [e1, e2]
    exact Heap.get?_push_size _ rfl
  · have e : b = (s.heap.push { cls := .type "range", data := .fields #[.int lo t, .int hi u, .int 1 v] }).objs.size := by simpa using hb
    subst e
    exact I1.fpOk (Nat.le_refl _) (I1.hok.fresh (Nat.le_refl _))
def iRng1 (ta : TA) : TI := fun σ H R => ta σ H fun vs H1 => ∃ j : Int, vs = [.int j] ∧ -(2 ^ 62) ≤ j ∧ j < 2 ^ 62 ∧ R (Itr 0 j.toNat) H1
def iRng2 (ta : TA) : TI := fun σ H R => ta σ H fun vs H1 => ∃ i j : Int, vs = [.int i, .int j] ∧ (-(2 ^ 62) ≤ i ∧ i < 2 ^ 62 ∧ -(2 ^ 62) ≤ j ∧ j < 2 ^ 62) ∧ R (Itr i (j - i).toNat) H1
theorem pi_range1 {a : Expr} {ta : TA} {p pos : Pos} (hg : Gl X "range") (hm : X.mg "range" = none) (ha : PA X [a] ta) (hs : starEach [a] X.env = [(false, eval a X.env)] := by rfl) : PI X tg (.Call (.Name "range" p) [a] [] pos) (iRng1 ta) := by
  intro pins s σ H R I h
  refine Call_ (ld_blt I hg hm boot_range (PyProof.Rows.callWith_type1 (thn (ha pos pins s σ H _ I h) fun us s1 ⟨vs, H1, I1, r1, q1⟩ => ?_) hs rfl))
  obtain ⟨j, e, q1, q2, q⟩ := q1
  subst e
  cases r1 with
  | cons r rr =>
    cases rr
    obtain ⟨t, rfl⟩ := r
    exact call_range_1 (range_it I1 (by omega) (by omega) q1 q2 (by simpa using q))
theorem pi_range2 {a b : Expr} {ta : TA} {p pos : Pos} (hg : Gl X "range") (hm : X.mg "range" = none) (ha : PA X [a, b] ta) (hs : starEach [a, b] X.env = [(false, eval a X.env), (false, eval b X.env)] := by rfl) (hs2 : starEach [b] X.env = [(false, eval b X.env)] := by rfl) :
    PI X tg (.Call (.Name "range" p) [a, b] [] pos) (iRng2 ta) := by
  intro pins s σ H R I h
  refine Call_ (ld_blt I hg hm boot_range (PyProof.Rows.callWith_type1 (thn (ha pos pins s σ H _ I h) fun us s1 ⟨vs, H1, I1, r1, q1⟩ => ?_) (by rw [hs, hs2]) (by rw [hs2]; rfl)))
  obtain ⟨i, j, e, ⟨q1, q2, q3, q4⟩, q⟩ := q1
  subst e
  cases r1 with
  | cons r rr =>
    cases rr with
    | cons r' rr =>
      cases rr
      obtain ⟨t, rfl⟩ := r
      obtain ⟨t', rfl⟩ := r'
      exact call_range_2 (range_it I1 q1 q2 q3 q4 q)
def tFor (wi : TI) (g : TG) (tb : TS) : TS := fun D σ H => wi σ H fun J H1 => ∃ W : Nat → Nat → St → Hp → Prop, (∃ m, W 0 m σ H1) ∧ ∀ i m σ H, W i m σ H →
  (J.stop i H ∧ D.nx σ H) ∨ (J.go i H ∧ ∃ N : St → Hp → Prop, (∀ σ' H', N σ' H' → ∃ m', m' < m ∧ W (i + 1) m' σ' H') ∧ ∀ x H', J.yld i H x H' → g x σ H' fun σ2 H2 => tb { D with nx := N, ct := N, bk := D.nx } σ2 H2)
def pinsAt (fp : List Addr) (h : Heap) : List (Addr × Obj) := fp.filterMap fun b => (h.get? b).map fun o => (b, o)
theorem mem_pinsAt {fp : List Addr} {h : Heap} {b : Addr} {o : Obj} (hb : b ∈ fp) (e : h.get? b = some o) : (b, o) ∈ pinsAt fp h := List.mem_filterMap.mpr ⟨b, hb, by rw [e]; rfl⟩
theorem of_pinsAt {fp : List Addr} {h : Heap} {p : Addr × Obj} (hp : p ∈ pinsAt fp h) : p.1 ∈ fp ∧ h.get? p.1 = some p.2 := by
  obtain ⟨b, hb, e⟩ := List.mem_filterMap.mp hp
  cases q : h.get? b with
  | none => rw [q] at e; cases e
  | some o =>
    rw [q] at e
    have e' : (b, o) = p := Option.some.inj e
    subst e'
    exact ⟨hb, q⟩
theorem Inv.pinned {pins : List (Addr × Obj)} {σ : St} {H : Hp} {s : Shared} {fp : List Addr} (I : Inv X pins σ H s) (hf : ∀ b ∈ fp, FpOk X pins H b) (ho : ∀ b ∈ fp, ∃ o, s.heap.get? b = some o ∧ ∀ v, o.data ≠ .cell v) : Inv X (pins ++ pinsAt fp s.heap) σ H s :=
  I.pins_of fun p hp => (List.mem_append.mp hp).elim (fun z => I.pin p (List.mem_append_right _ z)) fun z => by
    obtain ⟨hb, e⟩ := of_pinsAt z
    obtain ⟨f0, f1, f2, _⟩ := hf p.1 hb
    obtain ⟨o, e', d⟩ := ho p.1 hb
    rw [e] at e'; cases e'
    exact ⟨e, f0, f1, f2, d⟩
theorem Inv.unpinned {pins pl : List (Addr × Obj)} {σ : St} {H : Hp} {s : Shared} (I : Inv X (pins ++ pl) σ H s) : Inv X pins σ H s := I.pins_of fun p hp => I.pin p (List.mem_append_right _ (List.mem_append_left _ hp))
theorem ps_for {iter : Expr} {body : List Stmt} {wi : TI} {g : TG} {tb : TS} {pos : Pos} (hp : PassesOwn (model X.prog X.w) X.A X.env X.xe) (hc : X.calm = true) (hi : PI X tg iter wi) (hg : PG X tg g) (hb : PSs X body tb)
    (hs : ∀ x, foldedSetIterable iter X.env x = pure x := by intro _; rfl) : PS X (.For tg iter body [] pos) (tFor wi g tb) := by
  intro pins s σ H D I h
  refine wpAny_For (thn (hi pins s σ H _ I h) fun v s1 h1 => thn h1 fun itv s2 h2 => ?_) hs
  obtain ⟨it, fp, tn, J, H2, e, I2, T, st2, f2, W, ⟨m0, w0⟩, turn⟩ := h2
  subst e
  have stat : ∀ {H' : Hp}, (∀ b ∈ fp, H' b = none) → ∀ b ∈ fp, FpOk X pins H' b := fun hn b hb => ⟨hn b hb, (f2 b hb).2⟩
  refine codeAny_forLoop_any (fun n s' => ∃ i σ' H', Inv X pins σ' H' s' ∧ tn i s'.heap ∧ (∀ b ∈ fp, H' b = none) ∧ W i n σ' H') ?_ m0 ⟨0, σ, H2, I2, st2, fun b hb => (f2 b hb).1, w0⟩
  rintro n s3 ⟨i, σ3, H3, I3, st3, fr3, w3⟩
  rcases turn i n σ3 H3 w3 with ⟨stop, qn⟩ | ⟨go, N, hN, step⟩
  · refine wpAny_passesOwn hp (thn (T.done X rfl rfl rfl hc i pins s3 σ3 H3 X.xe I3 (stat fr3) st3 stop) fun r s4 ⟨hr, I4⟩ => ?_)
    subst hr
    exact wpAny_execs_nil ⟨σ3, H3, I4, qn⟩
  · refine wpAny_passesOwn hp (thn (T.item X rfl rfl rfl hc i pins s3 σ3 H3 X.xe I3 (stat fr3) st3 go) fun r s4 ⟨u, hr, h4⟩ => ?_)
    subst hr
    refine wpAny_passesOwn hp (thn h4 fun _ s5 ⟨x, H5, I5, r5, y5, st5, fr5⟩ => ?_)
    have I5' := I5.pinned (stat fr5) (T.obj _ _ st5)
    refine wpAny_passesOwn hp (thn (hg _ s5 σ3 H5 x u _ I5' r5 (step x H5 y5)) fun _ s6 ⟨σ6, H6, I6, q6⟩ => ?_)
    refine wpAny_passesOwn hp (thn (hb _ s6 σ6 H6 _ I6 q6) fun f s7 q7 => ?_)
    have again : ∀ {σ7 : St} {H7 : Hp}, Inv X (pins ++ pinsAt fp s5.heap) σ7 H7 s7 → N σ7 H7 → ∃ m, m < n ∧ ∃ i σ' H', Inv X pins σ' H' s7 ∧ tn i s7.heap ∧ (∀ b ∈ fp, H' b = none) ∧ W i m σ' H' := fun {σ7 H7} I7 n7 => by
      obtain ⟨m', hm, w7⟩ := hN σ7 H7 n7
      refine ⟨m', hm, i + 1, σ7, H7, I7.unpinned, T.keep _ _ _ st5 fun b hb o e => (I7.pin (b, o) (List.mem_append_right _ (List.mem_append_right _ (mem_pinsAt hb e)))).1, fun b hb => ?_, w7⟩
      obtain ⟨o, e, d⟩ := T.obj _ _ st5 b hb
      exact (I7.pin (b, o) (List.mem_append_right _ (List.mem_append_right _ (mem_pinsAt hb e)))).2.1
    cases f with
    | next => obtain ⟨σ7, H7, I7, n7⟩ := q7; exact again I7 n7
    | cont => obtain ⟨σ7, H7, I7, n7⟩ := q7; exact again I7 n7
    | brk => obtain ⟨σ7, H7, I7, q7⟩ := q7; exact ⟨σ7, H7, I7.unpinned, q7⟩
    | ret v => obtain ⟨x7, σ7, H7, I7, r7, q7⟩ := q7; exact ⟨x7, σ7, H7, I7.unpinned, r7, q7⟩
end
end L2
namespace L2
open PySem PySem.Spec PyProof.Rows
abbrev R2 := V → V → Hp → VK → Prop
def OpR (X : Cx) (f : Value → Value → Sem Value) (r : R2) : Prop :=
  ∀ (pins : List (Addr × Obj)) (s : Shared) (σ : St) (H : Hp) (x y : V) (v u : Value) (Q : VK), Inv X pins σ H s → RelV x v → RelV y u → r x y H Q →
    wpAny (model X.prog X.w) X.A (f v u) (EP X pins σ Q) X.xe s
def UnR (X : Cx) (f : Value → Sem Value) (r : V → Hp → VK → Prop) : Prop :=
  ∀ (pins : List (Addr × Obj)) (s : Shared) (σ : St) (H : Hp) (x : V) (v : Value) (Q : VK), Inv X pins σ H s → RelV x v → r x H Q →
    wpAny (model X.prog X.w) X.A (f v) (EP X pins σ Q) X.xe s
def CallR (X : Cx) (f : Value) (r : List V → Hp → VK → Prop) : Prop :=
  ∀ (pins : List (Addr × Obj)) (s : Shared) (σ : St) (H : Hp) (xs : List V) (us : List Value) (Q : VK), Inv X pins σ H s → Vals xs us → r xs H Q →
    wpAny (model X.prog X.w) X.A (call f us) (EP X pins σ Q) X.xe s
def TruR (X : Cx) (r : V → Hp → (Bool → Hp → Prop) → Prop) : Prop :=
  ∀ (pins : List (Addr × Obj)) (s : Shared) (σ : St) (H : Hp) (x : V) (v : Value) (Q : Bool → Hp → Prop), Inv X pins σ H s → RelV x v → r x H Q →
    wpAny (model X.prog X.w) X.A (truthy v) (TP X pins σ Q) X.xe s
def tOp (r : R2) (ta tb : TE) : TE := fun σ H Q => ta σ H fun x H1 => tb σ H1 fun y H2 => r x y H2 Q
def tUn (r : V → Hp → VK → Prop) (ta : TE) : TE := fun σ H Q => ta σ H fun x H1 => r x H1 Q
def rI (C : Int → Int → Prop) (g : Int → Int → V) : R2 := fun x y H Q => ∃ i j, x = .int i ∧ y = .int j ∧ C i j ∧ Q (g i j) H
def rI0 (g : Int → Int → V) : R2 := fun x y H Q => ∃ i j, x = .int i ∧ y = .int j ∧ Q (g i j) H
def rU (g : Int → V) : V → Hp → VK → Prop := fun x H Q => ∃ i, x = .int i ∧ Q (g i) H
section
variable {X : Cx} {a b c : Expr} {ta tb tc : TE} {pos : Pos}
theorem binT (ha : PE X a ta) (hb : PE X b tb) {pins : List (Addr × Obj)} {s : Shared} {σ : St} {H : Hp} {R : V → V → Hp → Prop} (I : Inv X pins σ H s)
    (h : ta σ H fun x H1 => tb σ H1 fun y H2 => R x y H2) {Q : Value → Shared → Prop} {f : Value → Value → Sem Value}
    (hf : ∀ v u s2 x y H2, Inv X pins σ H2 s2 → RelV x v → RelV y u → R x y H2 → wpAny (model X.prog X.w) X.A (f v u) Q X.xe s2) :
    wpAny (model X.prog X.w) X.A (eval a X.env) (fun v s₁ => wpAny (model X.prog X.w) X.A (eval b X.env) (fun u s₂ => wpAny (model X.prog X.w) X.A (f v u) Q X.xe s₂) X.xe s₁) X.xe s := by
  refine thn (ha pins s σ H _ I h) fun v s1 ⟨x, H1, I1, r1, q1⟩ => ?_
  refine thn (hb pins s1 σ H1 _ I1 q1) fun u s2 ⟨y, H2, I2, r2, q2⟩ => ?_
  exact hf v u s2 x y H2 I2 r1 r2 q2
theorem pe_op {op : Operator} {r : R2} (ho : OpR X (binaryOp op) r) (ha : PE X a ta) (hb : PE X b tb) : PE X (.BinOp a op b pos) (tOp r ta tb) := by
  intro pins s σ H Q I h
  exact wpAny_BinOp (binT ha hb I h fun v u s2 x y H2 I2 rx ry q => ho pins s2 σ H2 x y v u Q I2 rx ry q)
theorem pe_un {op : UnaryOp} {r : V → Hp → VK → Prop} (ho : UnR X (unaryOp op) r) (ha : PE X a ta) : PE X (.UnaryOp op a pos) (tUn r ta) := by
  intro pins s σ H Q I h
  exact UnaryOp_ (thn (ha pins s σ H _ I h) fun v s1 ⟨x, H1, I1, r1, q1⟩ => ho pins s1 σ H1 x v Q I1 r1 q1)
theorem opI {f : Value → Value → Sem Value} {C : Int → Int → Prop} {g : Int → Int → Int}
    (rule : ∀ (i j : Int) (t u : Tok) (s : Shared) (Q : Value → Shared → Prop) (E : Value → Shared → Prop), C i j → Q (.int (g i j) s.toks) { s with toks := s.toks + 1 } → wpAny (model X.prog X.w) X.A (f (.int i t) (.int j u)) Q E s) :
    OpR X f (rI C fun i j => .int (g i j)) := by
  intro pins s σ H x y v u Q I rx ry h
  obtain ⟨i, j, rfl, rfl, hc, q⟩ := h
  obtain ⟨t, rfl⟩ := rx
  obtain ⟨t', rfl⟩ := ry
  exact rule i j t t' s _ _ hc ⟨.int (g i j), H, I.tok _, ⟨_, rfl⟩, q⟩
theorem opI0 {f : Value → Value → Sem Value} {g : Int → Int → Int}
    (rule : ∀ (i j : Int) (t u : Tok) (s : Shared) (Q : Value → Shared → Prop) (E : Value → Shared → Prop), Q (.int (g i j) s.toks) { s with toks := s.toks + 1 } → wpAny (model X.prog X.w) X.A (f (.int i t) (.int j u)) Q E s) :
    OpR X f (rI0 fun i j => .int (g i j)) := by
  intro pins s σ H x y v u Q I rx ry h
  obtain ⟨i, j, rfl, rfl, q⟩ := h
  obtain ⟨t, rfl⟩ := rx
  obtain ⟨t', rfl⟩ := ry
  exact rule i j t t' s _ _ ⟨.int (g i j), H, I.tok _, ⟨_, rfl⟩, q⟩
theorem opB0 {f : Value → Value → Sem Value} {g : Int → Int → Bool}
    (rule : ∀ (i j : Int) (t u : Tok) (s : Shared) (Q : Value → Shared → Prop) (E : Value → Shared → Prop), Q (.bool (g i j)) s → wpAny (model X.prog X.w) X.A (f (.int i t) (.int j u)) Q E s) :
    OpR X f (rI0 fun i j => .bl (g i j)) := by
  intro pins s σ H x y v u Q I rx ry h
  obtain ⟨i, j, rfl, rfl, q⟩ := h
  obtain ⟨t, rfl⟩ := rx
  obtain ⟨t', rfl⟩ := ry
  exact rule i j t t' s _ _ ⟨.bl (g i j), H, I, rfl, q⟩
def CDiv (i j : Int) : Prop := 0 < j ∧ j < 1073741824
def CDivN (i j : Int) : Prop := j ≠ 0 ∧ j.natAbs < 1073741824
def CPow (i j : Int) : Prop := 0 ≤ j ∧ j ≤ 1000000 ∧ i.natAbs < 2 ^ 64
def CMul (i j : Int) : Prop := (-(2 ^ 64) < i ∧ i < 2 ^ 64) ∨ (-(2 ^ 64) < j ∧ j < 2 ^ 64)
theorem CMul.ok {i j : Int} (h : CMul i j) : IntMulOk i j := by
  rcases h with ⟨h1, h2⟩ | ⟨h1, h2⟩
  · exact .of_left (intBits_le_64 h1 h2)
  · exact .of_right (intBits_le_64 h1 h2)
theorem op_add : OpR X (binaryOp .Add) (rI0 fun i j => .int (i + j)) := opI0 fun _ _ _ _ _ _ _ q => add_int q
theorem op_sub : OpR X (binaryOp .Sub) (rI0 fun i j => .int (i - j)) := opI0 fun _ _ _ _ _ _ _ q => sub_int q
theorem op_mul : OpR X (binaryOp .Mult) (rI CMul fun i j => .int (i * j)) := opI fun _ _ _ _ _ _ _ hc q => mul_int q hc.ok
theorem op_fdiv : OpR X (binaryOp .FloorDiv) (rI CDiv fun i j => .int (i / j)) := opI fun i j _ _ _ _ _ hc q => by
  have h1 : (0 : Int) < j := hc.1
  have h2 : j < 1073741824 := hc.2
  exact floordiv_int (by omega) (by rw [Int.fdiv_eq_ediv_of_nonneg i (by omega)]; exact q) (.inl (PyProof.noPylong_small (by omega)))
theorem op_mod : OpR X (binaryOp .Mod) (rI (fun _ j => 0 < j) fun i j => .int (i % j)) := opI fun i j _ _ _ _ _ hc q => by
  have h1 : (0 : Int) < j := hc
  exact mod_int' (by omega) (by rw [Int.fmod_eq_emod_of_nonneg i (by omega)]; exact q)
theorem unI {f : Value → Sem Value} {g : Int → Int}
    (rule : ∀ (i : Int) (t : Tok) (s : Shared) (Q : Value → Shared → Prop) (E : Value → Shared → Prop), Q (.int (g i) s.toks) { s with toks := s.toks + 1 } → wpAny (model X.prog X.w) X.A (f (.int i t)) Q E s) :
    UnR X f (rU fun i => .int (g i)) := by
  intro pins s σ H x v Q I rx h
  obtain ⟨i, rfl, q⟩ := h
  obtain ⟨t, rfl⟩ := rx
  exact rule i t s _ _ ⟨.int (g i), H, I.tok _, ⟨_, rfl⟩, q⟩
theorem un_neg : UnR X (unaryOp .USub) (rU fun i => .int (-i)) := unI fun _ _ _ _ _ q => neg_int q
end
def scal : V → V → Bool
  | .non, .non => true | .non, .int _ => true | .int _, .non => true | .non, .bl _ => true | .bl _, .non => true | .non, .str _ => true | .str _, .non => true
  | .int _, .int _ => true | .bl _, .bl _ => true | .str _, .str _ => true | .byt _, .byt _ => true
  | .int _, .str _ => true | .str _, .int _ => true | .bl _, .str _ => true | .str _, .bl _ => true
  | _, _ => false
def rEq : R2 := fun x y H Q => scal x y = true ∧ Q (.bl (decide (x = y))) H
def rNe : R2 := fun x y H Q => scal x y = true ∧ Q (.bl (!decide (x = y))) H
theorem dec_int {i j : Int} : decide (V.int i = V.int j) = (i == j) := by
  rw [Bool.eq_iff_iff]
  simp
theorem dec_bl {i j : Bool} : decide (V.bl i = V.bl j) = (i == j) := by
  rw [Bool.eq_iff_iff]
  simp
theorem dec_str {i j : Str} : decide (V.str i = V.str j) = (i == j) := by
  rw [Bool.eq_iff_iff]
  simp
theorem dec_byt {i j : Array UInt8} : decide (V.byt i = V.byt j) = (i.toList == j.toList) := by
  rw [Bool.eq_iff_iff]
  cases i
  cases j
  simp
section
variable {X : Cx} {a b c : Expr} {ta tb tc : TE} {pos : Pos}
theorem fin_bl {pins : List (Addr × Obj)} {σ : St} {H : Hp} {s : Shared} {Q : VK} {k k' : Bool} (I : Inv X pins σ H s) (q : Q (.bl k) H) (e : k = k') : EP X pins σ Q (.bool k') s := by
  subst e
  exact ⟨.bl k, H, I, rfl, q⟩
theorem op_ne : OpR X (compareOp .NotEq) rNe := by
  intro pins s σ H x y v u Q I rx ry h
  obtain ⟨hs, q⟩ := h
  cases x with
  | non =>
    cases rx
    cases y with
    | non => cases ry; exact PySem.EqNone.ne_none_none (fin_bl I q (by simp))
    | bl j => cases ry; exact PySem.EqNone.ne_none_bool (fin_bl I q (by simp))
    | int j => obtain ⟨t', rfl⟩ := ry; exact PySem.EqNone.ne_none_int (fin_bl I q (by simp))
    | str j => obtain ⟨t', rfl⟩ := ry; exact PySem.EqNone.ne_none_str (fin_bl I q (by simp))
    | _ => exact absurd (show false = true from hs) Bool.false_ne_true
  | bl i =>
    cases rx
    cases y with
    | non => cases ry; exact PySem.EqNone.ne_bool_none (fin_bl I q (by simp))
    | bl j => cases ry; exact ne_bool (fin_bl I q (congrArg not dec_bl))
    | str j => obtain ⟨t', rfl⟩ := ry; exact PySem.EqMixed.ne_bool_str (fin_bl I q (by simp))
    | _ => exact absurd (show false = true from hs) Bool.false_ne_true
  | int i =>
    obtain ⟨t, rfl⟩ := rx
    cases y with
    | non => cases ry; exact PySem.EqNone.ne_int_none (fin_bl I q (by simp))
    | int j => obtain ⟨t', rfl⟩ := ry; exact ne_int (fin_bl I q (congrArg not dec_int))
    | str j => obtain ⟨t', rfl⟩ := ry; exact PySem.EqMixed.ne_int_str (fin_bl I q (by simp))
    | _ => exact absurd (show false = true from hs) Bool.false_ne_true
  | str i =>
    obtain ⟨t, rfl⟩ := rx
    cases y with
    | non => cases ry; exact PySem.EqNone.ne_str_none (fin_bl I q (by simp))
    | bl j => cases ry; exact PySem.EqMixed.ne_str_bool (fin_bl I q (by simp))
    | int j => obtain ⟨t', rfl⟩ := ry; exact PySem.EqMixed.ne_str_int (fin_bl I q (by simp))
    | str j => obtain ⟨t', rfl⟩ := ry; exact ne_str (fin_bl I q (congrArg not dec_str))
    | _ => exact absurd (show false = true from hs) Bool.false_ne_true
  | byt i =>
    obtain ⟨t, rfl⟩ := rx
    cases y with
    | byt j => obtain ⟨t', rfl⟩ := ry; exact PySem.W.ne_bytes (fin_bl I q (congrArg not dec_byt))
    | _ => exact absurd (show false = true from hs) Bool.false_ne_true
  | _ => cases y <;> exact absurd (show false = true from hs) Bool.false_ne_true
theorem op_lt : OpR X (compareOp .Lt) (rI0 fun i j => .bl (decide (i < j))) := opB0 fun _ _ _ _ _ _ _ q => lt_int q
theorem op_le : OpR X (compareOp .LtE) (rI0 fun i j => .bl (decide (i ≤ j))) := opB0 fun _ _ _ _ _ _ _ q => le_int q
theorem op_gt : OpR X (compareOp .Gt) (rI0 fun i j => .bl (decide (j < i))) := opB0 fun _ _ _ _ _ _ _ q => gt_int q
theorem op_in_str : OpR X (compareOp .In) (fun x y H Q => ∃ i j, x = .str i ∧ y = .str j ∧ Q (.bl (!(Builtin.Str.occurrences j i 0 j.length 1).isEmpty)) H) := by
  intro pins s σ H x y v u Q I rx ry h
  obtain ⟨i, j, rfl, rfl, q⟩ := h
  obtain ⟨t, rfl⟩ := rx
  obtain ⟨t', rfl⟩ := ry
  exact in_str (fin_bl I q rfl)
def isObj : HO → Bool
  | .lst _ => true
  | .ins _ _ _ => true
  | _ => false
theorem OpR.or {f : Value → Value → Sem Value} {r r' : R2} (h : OpR X f r) (h' : OpR X f r') : OpR X f (fun x y H Q => r x y H Q ∨ r' x y H Q) := by
  intro pins s σ H x y v u Q I rx ry q
  rcases q with q | q
  · exact h pins s σ H x y v u Q I rx ry q
  · exact h' pins s σ H x y v u Q I rx ry q
theorem nomark (b : Expr) {op : CmpOp} (h : op ≠ .In := by decide) (h2 : op ≠ .NotIn := by decide) : behindInMarks op b = false := by
  have e1 : (op == CmpOp.In) = false := by cases op <;> first | rfl | exact absurd rfl h
  have e2 : (op == CmpOp.NotIn) = false := by cases op <;> first | rfl | exact absurd rfl h2
  cases b <;> simp [behindInMarks, e1, e2]
theorem pe_cmpR {op : CmpOp} {r : R2} (ho : OpR X (compareOp op) r) (ha : PE X a ta) (hb : PE X b tb) (hm : behindInMarks op b = false) : PE X (.Compare a [op] [b] pos) (tOp r ta tb) := by
  intro pins s σ H Q I h
  exact wpAny_Compare1 (binT ha hb I h fun v u s2 x y H2 I2 rx ry q => ho pins s2 σ H2 x y v u Q I2 rx ry q) hm
def tTest (t : TE) : TT := fun σ H Q => t σ H fun x H' => ∃ k, x = .bl k ∧ Q k H'
theorem pt_cmpR {op : CmpOp} {r : R2} (ho : OpR X (compareOp op) r) (ha : PE X a ta) (hb : PE X b tb) (hm : behindInMarks op b = false) : PT X (.Compare a [op] [b] pos) (tTest (tOp r ta tb)) := by
  intro pins s σ H Q I h
  refine wpAny_isTrue_Compare1 (thn (ha pins s σ H _ I h) fun v s1 ⟨x, H1, I1, r1, q1⟩ => thn (hb pins s1 σ H1 _ I1 q1) fun u s2 ⟨y, H2, I2, r2, q2⟩ =>
    thn (ho pins s2 σ H2 x y v u _ I2 r1 r2 q2) fun c s3 ⟨z, H3, I3, r3, k, e, q3⟩ => ?_) hm
  subst e
  cases r3
  exact wpAny_truthy_bool ⟨H3, I3, q3⟩
def tChain (r r' : R2) (ta tb tc : TE) : TE := fun σ H Q => ta σ H fun x H1 => tb σ H1 fun y H2 => r x y H2 fun z H3 => ∃ k, z = .bl k ∧
  (if k = true then tc σ H3 fun w' H4 => r' y w' H4 Q else Q (.bl false) H3)
theorem pe_chain {op op' : CmpOp} {r r' : R2} (ho : OpR X (compareOp op) r) (ho' : OpR X (compareOp op') r') (ha : PE X a ta) (hb : PE X b tb) (hc : PE X c tc)
    (hm : lastMarks [op, op'] [b, c] = false := by with_unfolding_all rfl) : PE X (.Compare a [op, op'] [b, c] pos) (tChain r r' ta tb tc) := by
  intro pins s σ H Q I h
  refine Compare_chain (thn (ha pins s σ H _ I h) fun v s1 ⟨x, H1, I1, r1, q1⟩ => chain_link (thn (hb pins s1 σ H1 _ I1 q1) fun u s2 ⟨y, H2, I2, r2, q2⟩ =>
    thn (ho pins s2 σ H2 x y v u _ I2 r1 r2 q2) fun d s3 ⟨z, H3, I3, r3, k, e, q3⟩ => ?_)) hm
  subst e
  cases r3
  refine wpAny_truthy_bool ?_
  cases k with
  | false => exact ite_ff ⟨.bl false, H3, I3, rfl, q3⟩
  | true => exact ite_tt (chain_last (thn (hc pins s3 σ H3 _ I3 q3) fun w' s4 ⟨z', H4, I4, r4, q4⟩ => ho' pins s4 σ H4 y z' u w' Q I4 r2 r4 q4))
theorem pt_chain {op op' : CmpOp} {r r' : R2} (ho : OpR X (compareOp op) r) (ho' : OpR X (compareOp op') r') (ha : PE X a ta) (hb : PE X b tb) (hc : PE X c tc)
    (hm : lastMarks [op, op'] [b, c] = false := by with_unfolding_all rfl) : PT X (.Compare a [op, op'] [b, c] pos) (tTest (tChain r r' ta tb tc)) := by
  intro pins s σ H Q I h
  refine isTrue_chain (thn (ha pins s σ H _ I h) fun v s1 ⟨x, H1, I1, r1, q1⟩ => test_link (thn (hb pins s1 σ H1 _ I1 q1) fun u s2 ⟨y, H2, I2, r2, q2⟩ =>
    thn (ho pins s2 σ H2 x y v u _ I2 r1 r2 q2) fun d s3 ⟨z, H3, I3, r3, k, e, q3⟩ => ?_)) hm
  subst e
  cases r3
  refine wpAny_truthy_bool ?_
  cases k with
  | false =>
    obtain ⟨k', e', q'⟩ := q3
    cases e'
    exact ite_ff ⟨H3, I3, q'⟩
  | true =>
    refine ite_tt (test_last (thn (hc pins s3 σ H3 _ I3 q3) fun w' s4 ⟨z', H4, I4, r4, q4⟩ => thn (ho' pins s4 σ H4 y z' u w' _ I4 r2 r4 q4) fun d' s5 ⟨z2, H5, I5, r5, k2, e2, q5⟩ => ?_))
    subst e2
    cases r5
    exact wpAny_truthy_bool ⟨H5, I5, q5⟩
def TruV (K : PySem.W.Frag) (x : V) (H : Hp) (k : Bool) : Prop :=
  match x with
  | .non => k = false
  | .bl b => k = b
  | .int i => k = (i != 0)
  | .str y => y.length ≤ sizeLine ∧ k = ((y.length : Int) != 0)
  | .byt y => y.size ≤ sizeLine ∧ k = ((y.size : Int) != 0)
  | .ref p => (∃ xs, SqL K H p xs ∧ k = !xs.isEmpty) ∨ (∃ xs, SqT K H p xs ∧ k = !xs.isEmpty) ∨ ∃ kvs, H p = some (.dK kvs) ∧ k = !kvs.isEmpty
  | _ => False
theorem line63 : (sizeLine : Nat) < 2 ^ 63 := by rw [sizeLine_eq]; decide
theorem op_add_str : OpR X (binaryOp .Add) (fun x y H Q => ∃ i j, x = .str i ∧ y = .str j ∧ i.length + j.length ≤ sizeLine ∧ Q (.str (i ++ j)) H) := by
  intro pins s σ H x y v u Q I rx ry h
  obtain ⟨i, j, rfl, rfl, hz, q⟩ := h
  obtain ⟨t, rfl⟩ := rx
  obtain ⟨t', rfl⟩ := ry
  exact add_str (fun t' tk => ⟨.str (i ++ j), H, I.tok _, ⟨_, rfl⟩, q⟩) hz
def PlainIxT (b : Expr) : Prop := ∀ o i, subscripted b false o i = operate [o, i] (getItem o i)
theorem vals1 {x : V} {us : List Value} (r : Vals [x] us) : ∃ u, us = [u] ∧ RelV x u := by
  cases r with
  | cons r1 r2 => cases r2; exact ⟨_, rfl, r1⟩
theorem vals2 {x y : V} {us : List Value} (r : Vals [x, y] us) : ∃ u w', us = [u, w'] ∧ RelV x u ∧ RelV y w' := by
  cases r with
  | cons r1 r2 =>
    cases r2 with
    | cons r3 r4 => cases r4; exact ⟨_, _, rfl, r1, r3⟩
def LenV (K : PySem.W.Frag) (x : V) (H : Hp) (n : Nat) : Prop :=
  match x with
  | .str y => y.length ≤ sizeLine ∧ n = y.length
  | .byt y => y.size ≤ sizeLine ∧ n = y.size
  | .ref p => (∃ xs, SqL K H p xs ∧ n = xs.length) ∨ ∃ xs, SqT K H p xs ∧ n = xs.length
  | _ => False
end
end L2
namespace L2
open PySem PySem.Spec PyProof.Rows
structure ObjM (h : Heap) (x dx C : Addr) (mA : Str → Option Value) : Prop where
  obj : h.get? x = some (PySem.W.instObj C dx)
  ns : h.Ns1 dx mA
  ne : dx ≠ x
theorem lookIn_ns {h : Heap} {dx : Addr} {mA : Str → Option Value} (n : h.Ns1 dx mA) : ∃ od, h.get? dx = some od ∧ ∀ name, PySem.W.lookIn name od = some (mA name) := by
  obtain ⟨o, es, ep, ho, hd, hk, _, hm⟩ := n
  refine ⟨o, ho, fun name => ?_⟩
  have e := hm name
  unfold nsFind findBy at e
  rw [← Array.find?_toList] at e
  unfold PySem.W.lookIn
  rw [hd]
  dsimp only
  split
  · rename_i y q
    rw [q] at e
    exact congrArg some e
  · rename_i q
    rw [q] at e
    have a : es.toList.any (·.refKey) = false := by
      rw [List.any_eq_false]
      intro y hy
      obtain ⟨z, t, hkey⟩ := hk y (Array.mem_toList_iff.mp hy)
      simp [DictEntry.refKey, hkey]
    have a' : ¬ es.toList.any (·.refKey) = true := by rw [a]; exact Bool.false_ne_true
    rw [if_neg a']
    exact congrArg some e
theorem ObjM.look {h : Heap} {x dx C : Addr} {mA : Str → Option Value} (I : ObjM h x dx C mA) : ∃ od, PySem.W.InstAt h x (PySem.W.instObj C dx) C (some od) ∧ ∀ name, PySem.W.lookIn name od = some (mA name) :=
  let ⟨od, ho, hl⟩ := lookIn_ns I.ns
  ⟨od, ⟨I.obj, rfl, rfl, ho⟩, hl⟩
section
variable {prog : Program} {w : World} {A : Around} {E : Value → Shared → Prop} {s : Shared} {K : PySem.W.Frag} {x dx C f : Addr} {mA : Str → Option Value} {name : Str} {v : Value}
end
def putF (f : Str) (v : V) : List (Str × V) → List (Str × V)
  | [] => [(f, v)]
  | (g, x) :: r => if g = f then (g, v) :: r else (g, x) :: putF f v r
theorem RelO.some_of {v : V} {o : Option Value} (r : RelO (some v) o) : ∃ u, o = some u ∧ RelV v u := by
  cases o with
  | none => exact (show False from r).elim
  | some u => exact ⟨u, rfl, r⟩
section
variable {P : Program} {w : World} {H H' : Hp} {h h' : Heap} {a C dx : Addr} {fs fs' : List (Str × V)}
theorem ins_get (hok : HOk P w H h) (e : H a = some (.ins C dx fs)) : ∃ mA, ObjM h a dx C mA ∧ (∀ f, RelO (fs.lookup f) (mA f)) ∧ PySem.Within mA (fs.map (·.1)) ∧ fs.length ≤ 1000 ∧ H dx = some (.own a) := by
  obtain ⟨d, z, ne, ob, mA, n, r, q⟩ := (show ObjOk P w H h a (.ins C dx fs) from hok a _ e)
  exact ⟨mA, ⟨ob, n, ne⟩, r, q, z, d⟩
end
structure Cls (K : PySem.W.Frag) (C : Addr) : Prop where
  pg : PySem.W.plainGet K C Str.empty = true
  hd : PySem.W.hasDictIn K C = true
  po : PySem.W.plainOver K C = true
  sa : PySem.W.findIn K (.ref C) "__setattr__" = some (some (.builtin "object.__setattr__"))
theorem Cls.get {K : PySem.W.Frag} {C : Addr} (c : Cls K C) (f : Str) : PySem.W.plainGet K C f = true := c.pg
def NoAttr (K : PySem.W.Frag) (C : Addr) (f : Str) : Prop := PySem.W.findIn K (.ref C) f = some none
structure Con (K : PySem.W.Frag) (C : Addr) (f : Str) (v : V) (u : Value) : Prop where
  at_ : PySem.W.findIn K (.ref C) f = some (some u)
  rel : RelV v u
  get : PySem.W.specialIn K u "__get__" = some none
  cp : PySem.W.copiedNames.contains f = false
structure Meth (K : PySem.W.Frag) (C : Addr) (m : Str) (f : Addr) : Prop where
  at_ : PySem.W.findIn K (.ref C) m = some (some (.ref f))
  fn : PySem.W.isFn K (.ref f) = true
  kp : PySem.W.keepIn K (.ref f) = true
section
variable {X : Cx} {pins : List (Addr × Obj)} {σ : St} {H : Hp} {s : Shared} {a C dx : Addr} {fs : List (Str × V)} {f : Str} {v : V} {A : Around} {E : Value → Shared → Prop}
theorem Inv.made (I : Inv X pins σ H s) : Inv X pins σ (upd (upd H s.heap.objs.size (.own (s.heap.objs.size + 1))) (s.heap.objs.size + 1) (.ins C s.heap.objs.size []))
    { s with heap := (s.heap.push PySem.W.emptyDict).push (PySem.W.instObj C s.heap.objs.size) } := by
  have e1 : (s.heap.push PySem.W.emptyDict).get? s.heap.objs.size = some PySem.W.emptyDict := Heap.get?_push_size s.heap rfl
  have e2 : ((s.heap.push PySem.W.emptyDict).push (PySem.W.instObj C s.heap.objs.size)).get? (s.heap.objs.size + 1) = some (PySem.W.instObj C s.heap.objs.size) := by
    have := Heap.get?_push_size (s.heap.push PySem.W.emptyDict) (o := PySem.W.instObj C s.heap.objs.size) rfl
    rwa [Heap.size_push] at this
  have e3 : (s.heap.push PySem.W.emptyDict).Ns s.heap.objs.size (fun _ => none) := ⟨PySem.W.emptyDict, #[], _, e1, rfl, (fun e he => absurd he (by simp)), fun _ => rfl⟩
  have I1 := I.laid (a := s.heap.objs.size) (o := .own (s.heap.objs.size + 1)) (h' := s.heap.push PySem.W.emptyDict) (t' := s.toks) (fun b u q => Heap.get?_push_of_some _ q) (Nat.le_refl _) ⟨_, e1⟩
  refine I1.laid (a := s.heap.objs.size + 1) (o := .ins C s.heap.objs.size []) (t' := s.toks) (fun b u q => Heap.get?_push_of_some _ q) (Nat.le_of_eq (Heap.size_push _ _)) ?_
  have ne : s.heap.objs.size ≠ s.heap.objs.size + 1 := Nat.ne_of_lt (Nat.lt_succ_self _)
  refine ⟨by rw [upd_ne ne, upd_same], Nat.zero_le _, ne, e2, fun _ => none, (Heap.Ns1.of_empty e3).at fun o q => Heap.get?_push_of_some _ q, fun _ => True.intro, fun y hy => absurd rfl hy⟩
end
def tFld (K : PySem.W.Frag) (ta : TE) (f : Str) : TE := fun σ H Q => ta σ H fun x H1 => ∃ a C dx fs v, x = .ref a ∧ H1 a = some (.ins C dx fs) ∧ Cls K C ∧ NoAttr K C f ∧ fs.lookup f = some v ∧ Q v H1
def tCon (K : PySem.W.Frag) (ta : TE) (f : Str) : TE := fun σ H Q => ta σ H fun x H1 => ∃ a C dx fs v u, x = .ref a ∧ H1 a = some (.ins C dx fs) ∧ Cls K C ∧ Con K C f v u ∧ fs.lookup f = none ∧ Q v H1
def sFld (K : PySem.W.Frag) (ta tv : TE) (f : Str) : TS := fun D σ H => tv σ H fun y H1 => ta σ H1 fun x H2 => ∃ a C dx fs, x = .ref a ∧ H2 a = some (.ins C dx fs) ∧ Cls K C ∧ NoAttr K C f ∧ fs.length < 1000 ∧
  D.nx σ (upd H2 a (.ins C dx (putF f y fs)))
def InOp (X : Cx) (op : Operator) (rd : V → V → Hp → VK → Prop) : Prop :=
  ∀ (pins : List (Addr × Obj)) (s : Shared) (σ : St) (H : Hp) (x y : V) (u v : Value) (Q : VK), Inv X pins σ H s → RelV x u → RelV y v → rd x y H Q → wpAny (model X.prog X.w) X.A (inplaceOp op u v) (EP X pins σ Q) X.xe s
def sFldAug (K : PySem.W.Frag) (ta tv : TE) (rd : V → V → Hp → VK → Prop) (f : Str) : TS := fun D σ H => ta σ H fun x H1 => ∃ a C dx fs v, x = .ref a ∧ H1 a = some (.ins C dx fs) ∧ Cls K C ∧ NoAttr K C f ∧ fs.lookup f = some v ∧
  tv σ H1 fun y H2 => rd v y H2 fun z H3 => ∃ dx' fs', H3 a = some (.ins C dx' fs') ∧ fs'.length < 1000 ∧ D.nx σ (upd H3 a (.ins C dx' (putF f z fs')))
section
variable {X : Cx} {o e value : Expr} {f : Str} {pos pos' tpos : Pos} {ta tv : TE}
def rAdd : V → V → Hp → VK → Prop := fun x y H Q => ∃ i j, x = .int i ∧ y = .int j ∧ Q (.int (i + j)) H
def rSub : V → V → Hp → VK → Prop := fun x y H Q => ∃ i j, x = .int i ∧ y = .int j ∧ Q (.int (i - j)) H
end
section
variable {X : Cx} {pins : List (Addr × Obj)} {σ : St} {H : Hp} {s : Shared} {A : Around} {E : Value → Shared → Prop} {Q : Value → Shared → Prop} {c : Value} {b : Bool}
inductive TyOf (K : PySem.W.Frag) (H : Hp) : V → Value → Prop where
  | non : TyOf K H .non (.type "NoneType")
  | bl (x : Bool) : TyOf K H (.bl x) (.type "bool")
  | int (i : Int) : TyOf K H (.int i) (.type "int")
  | str (x : Str) : TyOf K H (.str x) (.type "str")
  | flt (x : UInt64) : TyOf K H (.flt x) (.type "float")
  | lst {a : Addr} {xs : List V} (e : H a = some (.lst xs)) : TyOf K H (.ref a) (.type "list")
  | frz {a : Addr} {o : Obj} {xs : List V} (e : H a = some (.frz o (.lst xs))) : TyOf K H (.ref a) (.type "list")
  | tup {a : Addr} {xs : List V} (e : H a = some (.tup xs)) : TyOf K H (.ref a) (.type "tuple")
  | dK {a : Addr} {kvs : List (Key × V)} (e : H a = some (.dK kvs)) : TyOf K H (.ref a) (.type "dict")
  | dT {a : Addr} {kvs : List (List Key × V)} (e : H a = some (.dT kvs)) : TyOf K H (.ref a) (.type "dict")
  | ins {a C dx : Addr} {fs : List (Str × V)} (e : H a = some (.ins C dx fs)) (cl : Cls K C) (ha : PySem.W.findIn K (.ref C) "__class__" = some (some (.builtin "object.__class__")))
      (hn : PySem.W.specialIn K (.builtin "object.__class__") "__get__" = some (some (.builtin "getset_descriptor.__get__"))) (htk : PySem.W.takesIn K (.builtin "object.__class__") = some true)
      (hm : PySem.W.mroIn K C (.type "object") = some true) : TyOf K H (.ref a) (.ref C)
theorem isinst_ok {x : V} {u t : Value} (I : Inv X pins σ H s) (rx : RelV x u) (ty : TyOf X.K H x t) (e : PySem.W.kitOne X.K t c = some b) (h : ∀ tk, Q (.bool b) { s with toks := tk }) :
    wpAny (model X.prog X.w) A (call (.builtin "isinstance") [u, c]) Q E s := by
  cases ty with
  | non => cases (show u = Value.none from rx); exact PySem.W.kia_one PySem.W.kitx_none I.kIn True.intro e (fun z => nomatch z) h
  | bl y => cases (show u = Value.bool y from rx); exact PySem.W.kia_one PySem.W.kitx_bool I.kIn True.intro e (fun z => nomatch z) h
  | int i => obtain ⟨t, q⟩ := (show ∃ t, u = Value.int i t from rx); cases q; exact PySem.W.kia_one PySem.W.kitx_int I.kIn True.intro e (fun z => nomatch z) h
  | str y => obtain ⟨t, q⟩ := (show ∃ t, u = Value.str y t from rx); cases q; exact PySem.W.kia_one PySem.W.kitx_str I.kIn True.intro e (fun z => nomatch z) h
  | flt y => obtain ⟨t, q⟩ := (show ∃ t, u = Value.float y t from rx); cases q; exact PySem.W.kia_one PySem.W.kitx_float I.kIn True.intro e (fun z => nomatch z) h
  | @lst a xs ea =>
    cases (show u = Value.ref a from rx)
    obtain ⟨_, _, n, _, h1⟩ := (show ObjOk X.prog X.w H s.heap a (.lst xs) from I.hok a _ ea)
    exact PySem.W.kia_one PySem.W.kitx_list I.kIn ⟨_, h1, rfl⟩ e (fun z => nomatch z) h
  | @frz a ob xs ea =>
    cases (show u = Value.ref a from rx)
    obtain ⟨_, _, _, n, _, h1⟩ := (show ObjOk X.prog X.w H s.heap a (.frz ob (.lst xs)) from I.hok a _ ea)
    exact PySem.W.kia_one PySem.W.kitx_list I.kIn ⟨_, h1, rfl⟩ e (fun z => nomatch z) h
  | @tup a xs ea =>
    cases (show u = Value.ref a from rx)
    obtain ⟨_, _, _, p⟩ := (show ObjOk X.prog X.w H s.heap a (.tup xs) from I.hok a _ ea)
    obtain ⟨o, h1, h2, _⟩ := p
    exact PySem.W.kia_one PySem.W.kitx_tuple I.kIn ⟨o, h1, h2⟩ e (fun z => nomatch z) h
  | @dK a kvs ea =>
    cases (show u = Value.ref a from rx)
    obtain ⟨_, _, vs, _, p⟩ := (show ObjOk X.prog X.w H s.heap a (.dK kvs) from I.hok a _ ea)
    obtain ⟨o, es, ep, h1, h2, _⟩ := p
    exact PySem.W.kia_one PySem.W.kitx_dict I.kIn ⟨o, h1, h2.1⟩ e (fun z => nomatch z) h
  | @dT a kvs ea =>
    cases (show u = Value.ref a from rx)
    obtain ⟨_, _, xs, _, o, es, ep, h1, h2, _⟩ := (show ObjOk X.prog X.w H s.heap a (.dT kvs) from I.hok a _ ea)
    exact PySem.W.kia_one PySem.W.kitx_dict I.kIn ⟨o, h1, h2.1⟩ e (fun z => nomatch z) h
  | @ins a C dx fs ea cl ha hn htk hm =>
    cases (show u = Value.ref a from rx)
    obtain ⟨mA, O, _⟩ := ins_get I.hok ea
    obtain ⟨od, J, _⟩ := O.look
    exact PySem.W.kia_one (PySem.W.kitx_own (cl.get _) cl.hd ha hn htk hm) I.kIn J e (fun z => nomatch z) h
end
end L2
namespace L2
open PySem PySem.Spec PyProof.Rows
structure Room (k : Nat) (A : Around) : Prop where
  hd : A.handled = none
  dp : A.depth + 3 * k + 5 < recursionLimit
  un : A.units + 16 * k + 200 < cLine
theorem Room.mono {j k : Nat} {A : Around} (r : Room k A) (h : j ≤ k) : Room j A := ⟨r.hd, by have := r.dp; omega, by have := r.un; omega⟩
theorem Room.deeper {k : Nat} {A : Around} (r : Room (k + 1) A) (env : Env) : Room k (A.deeper env) :=
  ⟨r.hd, by have := r.dp; show A.depth + 1 + 3 * k + 5 < _; omega, by have := r.un; show A.units + 3 + 16 * k + 200 < _; omega⟩
theorem Room.in1 {k : Nat} {A : Around} (r : Room (k + 1) A) : Room k A.in1 :=
  ⟨r.hd, by have := r.dp; show A.depth + 3 * k + 5 < _; omega, by have := r.un; show A.units + 1 + 16 * k + 200 < _; omega⟩
theorem Room.depth {k : Nat} {A : Around} (r : Room k A) : A.depth < recursionLimit := by have := r.dp; omega
theorem Room.units {k : Nat} {A : Around} (r : Room k A) : A.units + 64 < cLine := by have := r.un; omega
def tNil : TA := fun _ H Q => Q [] H
def tCons (ta : TE) (tr : TA) : TA := fun σ H Q => ta σ H fun x H1 => tr σ H1 fun xs H2 => Q (x :: xs) H2
section
variable {X : Cx} {e : Expr} {es : List Expr} {te : TE} {t : TA} {pos : Pos}
theorem pa_nil : PA X [] tNil := fun _ _ _ _ H Q I h => Calls.spliced_nil ⟨[], H, I, .nil, h⟩
theorem pa_cons (ha : PE X e te) (hr : PA X es t) (hs : starEach (e :: es) X.env = (false, eval e X.env) :: starEach es X.env := by rfl) : PA X (e :: es) (tCons te t) := by
  intro pos pins s σ H Q I h
  rw [hs]
  show wpAny _ _ (spliced ((false, eval e X.env) :: backTo pos (starEach es X.env))) _ _ s
  refine Calls.spliced_cons (thn (ha pins s σ H _ I h) fun u s1 ⟨x, H1, I1, r1, q1⟩ => ?_)
  exact thn (hr pos pins s1 σ H1 _ I1 q1) fun us s2 ⟨xs, H2, I2, r2, q2⟩ => ⟨x :: xs, H2, I2, .cons r1 r2, q2⟩
def tTup (t : TA) : TE := fun σ H Q => t σ H fun xs H1 => xs.length ≤ sizeLine ∧ ∀ p, H1 p = none → Q (.ref p) (upd H1 p (.tup xs))
def tLst (t : TA) : TE := fun σ H Q => t σ H fun xs H1 => xs.length ≤ sizeLine ∧ ∀ p, H1 p = none → Q (.ref p) (upd H1 p (.lst xs))
theorem pe_tup {x1} (h : PA X es t) : PE X (.Tuple es x1 pos) (tTup t) := by
  intro pins s σ H Q I hq
  refine wpAny_Tuple_spliced (thn (h pos pins s σ H _ I hq) fun us s1 ⟨xs, H1, I1, r, z, q⟩ => ⟨by rw [← r.length]; exact z, ?_⟩)
  have hf : H1 s1.heap.objs.size = none := I1.hok.fresh (Nat.le_refl _)
  refine ⟨.ref s1.heap.objs.size, upd H1 s1.heap.objs.size (.tup xs), I1.laid (t' := s1.toks) (fun b u e => Heap.get?_push_of_some _ e) (Nat.le_refl _) ?_, rfl, q _ hf⟩
  exact ⟨z, us, r, ⟨_, Heap.get?_push_size _ rfl, rfl, _, rfl⟩⟩
theorem pe_lst (h : PA X es t) : PE X (.List es pos) (tLst t) := by
  intro pins s σ H Q I hq
  refine wpAny_List_spliced (thn (h pos pins s σ H _ I hq) fun us s1 ⟨xs, H1, I1, r, z, q⟩ => ⟨by rw [← r.length]; exact z, ?_⟩)
  have hf : H1 s1.heap.objs.size = none := I1.hok.fresh (Nat.le_refl _)
  refine ⟨.ref s1.heap.objs.size, upd H1 s1.heap.objs.size (.lst xs), I1.laid (t' := s1.toks) (fun b u e => Heap.get?_push_of_some _ e) (Nat.le_refl _) ?_, rfl, q _ hf⟩
  exact ⟨z, us, 0, r, Heap.get?_push_size _ rfl⟩
end
abbrev Sp := List V → Hp → VK → XK → Prop
abbrev CXT := List Env → Hp → Shared → XK → Value → Shared → Prop
structure Env0 (P : Program) (w : World) (K : PySem.W.Frag) (mg : Str → Option Value) (base : Heap) (A : Around) (outer : List Env) (s : Shared) (H : Hp) : Prop where
  frames : A.frames = some outer
  mod : Mod K mg base
  bs : ∀ b o, base.get? b = some o → s.heap.get? b = some o ∧ H b = none
  bsz : base.objs.size ≤ s.heap.objs.size
  funs : s.heap.FunFrames base outer
  frf : ∀ b ∈ frs outer, H b = none
  hok : HOk P w H s.heap
  bare : AllBare s.gens
def CE (outer : List Env) (P : Program) (w : World) (H : Hp) (s : Shared) (Q : VK) (u : Value) (s' : Shared) : Prop :=
  ∃ v H', s'.os = s.os ∧ AllBare s'.gens ∧ Un (frs outer) [] H H' s.heap s'.heap ∧ HOk P w H' s'.heap ∧ RelV v u ∧ Q v H'
def CR (CX : CXT) (outer : List Env) (P : Program) (w : World) (H : Hp) (s : Shared) (Q : VK) (E : XK) (r : Result) (s' : Shared) : Prop :=
  match r with
  | .ok (.ret u) => CE outer P w H s Q u s'
  | .ok _ => False
  | .error e => CX outer H s E e s'
structure FnOk (P : Program) (w : World) (K : PySem.W.Frag) (mg : Str → Option Value) (base : Heap) (CX : CXT) (k : Nat) (f : Addr) (fd : FuncData) (ps : List Str) (sp : Sp) : Prop where
  len : ∀ vs H Q E, sp vs H Q E → vs.length = ps.length
  run : ∀ (A : Around) (outer : List Env) (s : Shared) (H : Hp) (args : Args) (us : List Value) (vs : List V) (Q : VK) (E : XK), Room k A → Env0 P w K mg base A outer s H → BindsTo s fd args (ps.zip us) → Vals vs us → sp vs H Q E →
    codeAny (model P w) A (.call (.ref f) args) (CR CX outer P w H s Q E) s
theorem FnOk.mono {P : Program} {w : World} {K : PySem.W.Frag} {mg : Str → Option Value} {base : Heap} {CX : CXT} {j k : Nat} {f : Addr} {fd : FuncData} {ps : List Str} {sp : Sp} (F : FnOk P w K mg base CX j f fd ps sp) (h : j ≤ k) :
    FnOk P w K mg base CX k f fd ps sp := ⟨F.len, fun A outer s H args us vs Q E hr => F.run A outer s H args us vs Q E (hr.mono h)⟩
theorem FnOk.imp {P : Program} {w : World} {K : PySem.W.Frag} {mg : Str → Option Value} {base : Heap} {CX : CXT} {k : Nat} {f : Addr} {fd : FuncData} {ps : List Str} {sp sp' : Sp} (F : FnOk P w K mg base CX k f fd ps sp)
    (h : ∀ vs H Q E, sp' vs H Q E → sp vs H Q E) : FnOk P w K mg base CX k f fd ps sp' :=
  ⟨fun vs H Q E q => F.len vs H Q E (h _ _ _ _ q), fun A outer s H args us vs Q E hr he hb hv hs => F.run A outer s H args us vs Q E hr he hb hv (h _ _ _ _ hs)⟩
theorem Env0.in1 {P : Program} {w : World} {K : PySem.W.Frag} {mg : Str → Option Value} {base : Heap} {A : Around} {outer : List Env} {s : Shared} {H : Hp} (e : Env0 P w K mg base A outer s H) :
    Env0 P w K mg base A.in1 outer s H := ⟨e.frames, e.mod, e.bs, e.bsz, e.funs, e.frf, e.hok, e.bare⟩
section
variable {X : Cx} {pins : List (Addr × Obj)} {σ : St} {H : Hp} {s s' : Shared}
theorem Inv.env0 (I : Inv X pins σ H s) : Env0 X.prog X.w X.K X.mg X.base X.A X.stack s H :=
  ⟨I.ok.frames, I.ok.mod, I.bs, Nat.le_trans I.ok.bsz I.sz, I.stack, I.stkFree, I.hok, I.bare⟩
theorem Inv.after {Q : VK} {u : Value} (I : Inv X pins σ H s) (h : CE X.stack X.prog X.w H s Q u s') : EP X pins σ Q u s' := by
  obtain ⟨v, H', os, bare, un, hok, r, q⟩ := h
  obtain ⟨hh, g, d, t, os'⟩ := s'
  obtain rfl : os' = s.os := os
  exact ⟨v, H', I.call (h' := hh) (g' := g) (d' := d) (t' := t) (ch := []) un hok bare (fun b z => absurd z (by simp)), r, q⟩
end
def tCall (sp : Sp) (dvs : List V) (E : XK) (t : TA) : TE := fun σ H Q => t σ H fun vs H1 => sp (vs ++ dvs) H1 Q E
def tMeth (C : Addr) (m : Str) (sp : Sp) (dvs : List V) (E : XK) (ta : TE) (t : TA) : TE := fun σ H Q => ta σ H fun x H1 => ∃ a dx fs, x = .ref a ∧ H1 a = some (.ins C dx fs) ∧ fs.lookup m = none ∧
  t σ H1 fun vs H2 => sp (x :: (vs ++ dvs)) H2 Q E
def tMake (C : Addr) (sp : Sp) (dvs : List V) (E : XK) (t : TA) : TE := fun σ H Q => t σ H fun vs H1 => ∀ x dx, H1 x = none → H1 dx = none → dx ≠ x →
  sp (.ref x :: (vs ++ dvs)) (upd (upd H1 dx (.own x)) x (.ins C dx [])) (fun v H2 => v = .non ∧ Q (.ref x) H2) E
def Binds (K : PySem.W.Frag) (fd : FuncData) (ps : List Str) (ds : List Value) : Prop :=
  ∀ (s : Shared) (us : List Value), K.In s.heap → (us ++ ds).length = ps.length → BindsTo s fd ⟨us, []⟩ (ps.zip (us ++ ds))
theorem Binds.all {K : PySem.W.Frag} {fd : FuncData} {ps : List Str} (h : ∀ us : List Value, us.length = ps.length → bindArgs fd ⟨us, []⟩ = pure (ps.zip us)) : Binds K fd ps [] := fun s us _ hl => by
  rw [List.append_nil] at hl ⊢
  exact .of_eq (h us hl)
def Passes (CX : CXT) (X : Cx) (E : XK) : Prop := ∀ (pins : List (Addr × Obj)) (σ : St) (H : Hp) (s : Shared) (e : Value) (s' : Shared), Inv X pins σ H s → CX X.stack H s E e s' → X.xe e s'
section
variable {X : Cx} {CX : CXT} {k : Nat} {f C : Addr} {fd : FuncData} {ps : List Str} {sp : Sp} {dvs : List V} {ds : List Value} {E : XK} {x m : Str} {p pos apos : Pos} {e o : Expr} {es : List Expr} {ta : TE} {t : TA}
theorem run_fn {pins : List (Addr × Obj)} {σ : St} {H : Hp} {s : Shared} {Q : VK} {us : List Value} {vs : List V} (F : FnOk X.prog X.w X.K X.mg X.base CX k f fd ps sp) (hr : Room k X.A) (hb : Binds X.K fd ps ds) (hd : Vals dvs ds) (hx : Passes CX X E)
    (I : Inv X pins σ H s) (r : Vals vs us) (h : sp (vs ++ dvs) H Q E) : wpAny (model X.prog X.w) X.A (call (.ref f) us) (EP X pins σ Q) X.xe s := by
  have r2 : Vals (vs ++ dvs) (us ++ ds) := r.append hd
  have hl : (us ++ ds).length = ps.length := by rw [← r2.length]; exact F.len _ _ _ _ h
  refine wpAny_call (codeAny_mono (F.run X.A X.stack s H ⟨us, []⟩ (us ++ ds) (vs ++ dvs) Q E hr I.env0 (hb s us I.kIn hl) r2 h) fun r s' hq => ?_)
  cases r with
  | error e => exact hx pins σ H s e s' I hq
  | ok fl =>
    cases fl with
    | ret u => exact I.after hq
    | next => exact False.elim hq
    | brk => exact False.elim hq
    | cont => exact False.elim hq
theorem pe_call (F : FnOk X.prog X.w X.K X.mg X.base CX k f fd ps sp) (hr : Room k X.A) (hg : Gl X x) (hm : X.mg x = some (.ref f)) (hk : PySem.W.keepIn X.K (.ref f) = true) (hb : Binds X.K fd ps ds) (hd : Vals dvs ds) (hx : Passes CX X E)
    (ha : PA X (e :: es) t) (hdb : (x == ("__debug__" : Str)) = false := by decide) (he : starEach (e :: es) X.env = (false, eval e X.env) :: starEach es X.env := by rfl) (hpl : (backTo pos (starEach es X.env)).any (·.1) = false := by rfl) :
    PE X (.Call (.Name x p) (e :: es) [] pos) (tCall sp dvs E t) := by
  intro pins s σ H Q I h
  refine wpAny_Call_Name_kw (ld_glob I hg hm ?_ hdb)
  refine PySem.W.callWith_K (h₀ := X.base) I.ok.mod.kin hk (thn (ha pos pins s σ H _ I h) fun us s1 ⟨vs, H1, I1, r, q⟩ => ⟨I1.kIn, ?_⟩) he hpl
  exact run_fn F hr hb hd hx I1 r q
structure Mk (K : PySem.W.Frag) (C f : Addr) : Prop where
  makes : PySem.W.makesIn K C = true
  init : PySem.W.findIn K (.ref C) "__init__" = some (some (.ref f))
  fn : PySem.W.isFn K (.ref f) = true
  kp : PySem.W.keepIn K (.ref C) = true
end
def PK (X : Cx) (kws : List Keyword) (t : TA) : Prop :=
  ∀ (pos : Pos) (pins : List (Addr × Obj)) (s : Shared) (σ : St) (H : Hp) (Q : List V → Hp → Prop), Inv X pins σ H s → t σ H Q → wpAny (model X.prog X.w) X.A (evalAll ((backToKw pos (keywordEach kws X.env)).map (·.2))) (AP X pins σ Q) X.xe s
section
variable {X : Cx} {CX : CXT} {k : Nat} {f C : Addr} {fd : FuncData} {ps ks : List Str} {sp : Sp} {E : XK} {x m : Str} {p pos apos kpos : Pos} {e o : Expr} {es : List Expr} {kws : List Keyword} {te ta : TE} {t tk : TA} {nm : Option Str}
structure KBinds (K : PySem.W.Frag) (fd : FuncData) (ps ks : List Str) (g : List Value → List Value → List Value) (gV : List V → List V → List V) : Prop where
  to : ∀ (s : Shared) (us ws : List Value), K.In s.heap → (g us ws).length = ps.length → BindsTo s fd ⟨us, ks.zip ws⟩ (ps.zip (g us ws))
  rel : ∀ {vs : List V} {us : List Value} {zs : List V} {ws : List Value}, Vals vs us → Vals zs ws → Vals (gV vs zs) (g us ws)
def tCallK (sp : Sp) (gV : List V → List V → List V) (E : XK) (t tk : TA) : TE := fun σ H Q => t σ H fun vs H1 => tk σ H1 fun zs H2 => sp (gV vs zs) H2 Q E
variable {g : List Value → List Value → List Value} {gV : List V → List V → List V}
end
structure FnScope (N P : List Str) (sc : Scope) : Prop where
  kind : sc.kind = .function
  co : sc.isCoroutine = false
  gen : sc.isGenerator = false
  nd : N.Nodup
  pre : N.take P.length = P
  par : ∀ x ∈ P, sc.names.lookup x = some .local ∨ sc.names.lookup x = some .cell
  nofree : ∀ y ∈ sc.names, y.2 ≠ .free
theorem bindL_out {kindOf : Str → Option NameKind} {x : Str} : ∀ {binds : List (Str × Value)} {m : Str → Option Value}, (∀ v, (x, v) ∉ binds) → bindL kindOf binds m x = m x
  | [], _, _ => rfl
  | (n, v) :: r, m, h => by
    unfold bindL
    rw [bindL_out fun w hw => h w (List.mem_cons_of_mem _ hw)]
    split
    · have : x ≠ n := by rintro rfl; exact h v List.mem_cons_self
      simp [this]
    · rfl
theorem bindC_out {kindOf : Str → Option NameKind} {x : Str} : ∀ {binds : List (Str × Value)} {m : Str → Option Value}, (∀ v, (x, v) ∉ binds) → bindC kindOf binds m x = m x
  | [], _, _ => rfl
  | (n, v) :: r, m, h => by
    unfold bindC
    rw [bindC_out fun w hw => h w (List.mem_cons_of_mem _ hw)]
    split
    · rfl
    · have : x ≠ n := by rintro rfl; exact h v List.mem_cons_self
      simp [this]
theorem bindL_get {kindOf : Str → Option NameKind} {x : Str} {v : Value} : ∀ {P : List Str} {vs : List Value} {i : Nat} {m : Str → Option Value}, P.Nodup → P[i]? = some x → vs[i]? = some v → kindOf x = some .local →
    bindL kindOf (P.zip vs) m x = some v
  | [], _, _, _, _, h, _, _ => by simp at h
  | _ :: _, [], _, _, _, _, h, _ => by simp at h
  | p :: P, w :: vs, 0, m, nd, h1, h2, hk => by
    simp at h1 h2; subst h1; subst h2
    show bindL kindOf ((p, w) :: P.zip vs) m p = _
    unfold bindL
    rw [bindL_out fun v hv => (List.nodup_cons.mp nd).1 (List.of_mem_zip hv).1, if_pos hk]
    simp
  | p :: P, w :: vs, i + 1, m, nd, h1, h2, hk => by
    show bindL kindOf ((p, w) :: P.zip vs) m x = _
    unfold bindL
    exact bindL_get (i := i) (List.nodup_cons.mp nd).2 (by simpa using h1) (by simpa using h2) hk
theorem bindC_get {kindOf : Str → Option NameKind} {x : Str} {v : Value} : ∀ {P : List Str} {vs : List Value} {i : Nat} {m : Str → Option Value}, P.Nodup → P[i]? = some x → vs[i]? = some v → kindOf x ≠ some .local →
    bindC kindOf (P.zip vs) m x = some v
  | [], _, _, _, _, h, _, _ => by simp at h
  | _ :: _, [], _, _, _, _, h, _ => by simp at h
  | p :: P, w :: vs, 0, m, nd, h1, h2, hk => by
    simp at h1 h2; subst h1; subst h2
    show bindC kindOf ((p, w) :: P.zip vs) m p = _
    unfold bindC
    rw [bindC_out fun v hv => (List.nodup_cons.mp nd).1 (List.of_mem_zip hv).1, if_neg hk]
    simp
  | p :: P, w :: vs, i + 1, m, nd, h1, h2, hk => by
    show bindC kindOf ((p, w) :: P.zip vs) m x = _
    unfold bindC
    exact bindC_get (i := i) (List.nodup_cons.mp nd).2 (by simpa using h1) (by simpa using h2) hk
def start (N : List Str) (vs : List V) : St := vs.map some ++ List.replicate (N.length - vs.length) none
def cxOf (CX : CXT) (P : Program) (w : World) (K : PySem.W.Frag) (mg : Str → Option Value) (base : Heap) (N : List Str) (qual : Str) (scope : Scope) (f : Addr) (cd : Value) (A : Around) (outer : List Env) (s : Shared) (H : Hp) (E : XK) : Cx where
  prog := P
  w := w
  K := K
  mg := mg
  base := base
  A := A.deeper (envOfC qual scope s.heap.objs.size f cd)
  N := N
  s₀ := s
  H₀ := H
  env := envOfC qual scope s.heap.objs.size f cd
  outer := outer
  stack := envOfC qual scope s.heap.objs.size f cd :: outer
  ex := []
  calm := true
  fn := fun _ => true
  pn := []
  xe := fun e s' => wpAny (model P w) (A.deeper (envOfC qual scope s.heap.objs.size f cd)) (leaving (envOfC qual scope s.heap.objs.size f cd) e) (fun _ s'' => CX outer H s E e s'') (fun e' s'' => CX outer H s E e' s'') s'
theorem cell_has {sc : Scope} {n : Nat} {x : Str} (h : sc.names.lookup x = some .cell) : ∃ c, (cellsFrom n sc.names []).lookup x = some c := by
  have q := PySem.W.cellsFrom_some sc.names n [] (.inl h)
  exact Option.isSome_iff_exists.mp q
theorem inv_start {CX : CXT} {P : Program} {w : World} {K : PySem.W.Frag} {mg : Str → Option Value} {base : Heap} {N ps : List Str} {qual : Str} {scope : Scope} {f : Addr} {cd : Value} {A : Around} {outer : List Env} {s s1 : Shared} {H : Hp} {E : XK} {us : List Value} {vs : List V}
    (S : FnScope N ps scope) (hd : A.handled = none) (e0 : Env0 P w K mg base A outer s H) (hl : vs.length = ps.length) (r : Vals vs us)
    (x : InCallC s s.heap.objs.size (bindL (envOfC qual scope s.heap.objs.size f cd).kindOf (ps.zip us) fun _ => none) (cellsFrom (s.heap.objs.size + 1) scope.names []) (bindC (envOfC qual scope s.heap.objs.size f cd).kindOf (ps.zip us) fun _ => none) s1) :
    Inv (cxOf CX P w K mg base N qual scope f cd A outer s H E) [] (start N vs) H s1 := by
  have hpl : ps.length ≤ N.length := by have := congrArg List.length S.pre; rw [List.length_take] at this; omega
  obtain ⟨h1, tk, rfl, hk⟩ := x.done
  have noA : ∀ b : Addr, b ∉ (cxOf CX P w K mg base N qual scope f cd A outer s H E).ex := fun b z => absurd (show b ∈ ([] : List Addr) from z) (by simp)
  refine ⟨⟨e0.mod, S.kind, rfl, rfl, Nat.le_refl _, fun y z c h1 h2 => ?_, fun y hy => ?_, fun y c _ h => ?_, fun _ => hd, Around.frames_deeper e0.frames, .inr ⟨rfl, rfl⟩, fun b z => absurd z (noA b), e0.bs, e0.bsz, fun b _ _ => noA b, fun b z => absurd z (noA b), e0.funs, e0.frf⟩,
    rfl, e0.bare, Un.kept hk, ⟨_, x.toInCall.ns, fun i y v h1 h2 h3 => ?_⟩, fun y c h => ⟨_, x.cell y c h⟩, e0.hok.fresh (Nat.le_refl _), fun y c h => ?_, fun p hp => absurd (show p ∈ ([] : List (Addr × Obj)) from hp) (by simp), e0.hok.kept hk, ?_⟩
  · exact name_of_addr x.apart (PySem.mem_of_lookup h1) (PySem.mem_of_lookup h2)
  · have hy : scope.names.lookup y = some .cell ∨ scope.names.lookup y = some .free := hy
    rcases hy with hy | hy
    · exact cell_has hy
    · exact absurd rfl (S.nofree _ (PySem.mem_of_lookup hy))
  · exact Nat.le_of_lt (x.above y c (PySem.mem_of_lookup h))
  · have hi : i < vs.length := by
      unfold start at h2
      by_cases hi : i < vs.length
      · exact hi
      · rw [List.getElem?_append_right (by simpa using hi)] at h2
        rw [List.getElem?_replicate] at h2
        split at h2 <;> cases h2
    have ha : vs[i]? = some v := by
      unfold start at h2
      rw [List.getElem?_append_left (by simpa using hi), List.getElem?_map] at h2
      cases e : vs[i]? with
      | none => rw [e] at h2; cases h2
      | some a => rw [e] at h2; cases h2; rfl
    obtain ⟨u, hu, rv⟩ := r.get ha
    have hp : ps[i]? = some y := by
      rw [← S.pre, List.getElem?_take_of_lt (by omega)]; exact h1
    have ndP : ps.Nodup := by rw [← S.pre]; exact S.nd.sublist (List.take_sublist _ _)
    refine ⟨u, rv, ?_⟩
    rcases S.par y (List.mem_of_getElem? hp) with k | k
    · exact .inl ⟨k, bindL_get ndP hp hu k⟩
    · obtain ⟨c, e⟩ := cell_has (n := s.heap.objs.size + 1) k
      refine .inr ⟨.inl k, c, e, ?_⟩
      have q := x.cell y c e
      rw [bindC_get ndP hp hu (by show scope.names.lookup y ≠ _; rw [k]; decide)] at q
      exact q
  · exact e0.hok.fresh (Nat.le_of_lt (x.above y c (PySem.mem_of_lookup h)))
  · unfold start
    show _ = N.length
    rw [List.length_append, List.length_map, List.length_replicate]
    omega
theorem fn_of {CX : CXT} {P : Program} {w : World} {K : PySem.W.Frag} {mg : Str → Option Value} {base : Heap} {k : Nat} {f : Addr} {name qual : Str} {params : Arguments} {body : List Stmt} {scope : Scope} {dV kV doc pm cdv ct oc : Value} {an od : Option Addr}
    {osl : Array (Option Value)} {N ps : List Str} {sp : Sp} (lk : K.lookup f = some ⟨oc, od, .func (PySem.W.fnOf name qual params body scope dV kV doc pm an cdv ct), osl⟩) (hcd : PySem.W.codeIn K cdv qual = true) (S : FnScope N ps scope)
    (len : ∀ vs H Q E, sp vs H Q E → vs.length = ps.length)
    (hbody : ∀ (A : Around) (outer : List Env) (s : Shared) (H : Hp) (vs : List V) (Q : VK) (E : XK), Room k (A.deeper (envOfC qual scope s.heap.objs.size f cdv)) → sp vs H Q E →
      ∃ t, PSs (cxOf CX P w K mg base N qual scope f cdv A outer s H E) body t ∧ t { nx := fun _ H' => Q .non H', rt := Q } (start N vs) H) :
    FnOk P w K mg base CX (k + 1) f (PySem.W.fnOf name qual params body scope dV kV doc pm an cdv ct) ps sp := by
  refine ⟨len, fun A outer s H args us vs Q E hr e0 hb r hsp => ?_⟩
  have hl := len _ _ _ _ hsp
  have KX : K.In s.heap := e0.mod.kin.keeps fun b o e => (e0.bs b o e).1
  have lim : s.heap.NoLimit := e0.mod.nolimit.keeps fun b o e => (e0.bs b o e).1
  have hkind : ∀ y ∈ ps.zip us, scope.names.lookup y.1 = some .local ∨ (scope.names.lookup y.1 = some .cell ∧ ((cellsFrom (s.heap.objs.size + 1) scope.names []).lookup y.1).isSome = true) := fun ⟨n, v⟩ hy => by
    rcases S.par n (List.of_mem_zip hy).1 with q | q
    · exact .inl q
    · exact .inr ⟨q, PySem.W.cellsFrom_some _ _ _ (.inl q)⟩
  refine codeAny_call_function hr.depth (KX _ _ lk) rfl S.co S.gen rfl (PySem.W.codeRec_of KX hcd) (hb _ _ _ _ ?_)
  refine wpAny_newFunctionEnv_cells S.kind hkind fun env he s1 x => ?_
  subst he
  refine ⟨lim.keeps x.toInCall.keep, codeAny_func ?_⟩
  obtain ⟨t, ht, hq⟩ := hbody A outer s H vs Q E (hr.deeper _) hsp
  have I : Inv (cxOf CX P w K mg base N qual scope f cdv A outer s H E) [] (start N vs) H s1 := inv_start S hr.hd e0 hl r x
  refine wpAny_mono (ht [] s1 (start N vs) H _ I hq) (fun fl s' hs => ?_) fun e s' hs => hs
  have fin : ∀ {σ' : St} {H' : Hp} {v : V} {u : Value}, Inv (cxOf CX P w K mg base N qual scope f cdv A outer s H E) [] σ' H' s' → RelV v u → Q v H' → CE outer P w H s Q u s' :=
    fun {σ' H' v u} J rv q => ⟨v, H', J.os, J.bare, J.base, J.hok, rv, q⟩
  cases fl with
  | ret u =>
    obtain ⟨v, σ', H', J, rv, q⟩ := hs
    exact fin J rv q
  | next =>
    obtain ⟨σ', H', J, q⟩ := hs
    exact fin (v := V.non) (u := Value.none) J rfl q
  | brk =>
    obtain ⟨_, _, _, q⟩ := hs
    exact False.elim q
  | cont =>
    obtain ⟨_, _, _, q⟩ := hs
    exact False.elim q
end L2
namespace L2
open PySem PySem.Spec PyProof.Rows
section
variable {X : Cx} {x : Str} {p pos : Pos} {e : Expr} {es : List Expr} {t : TA} {id T : String} {r : List V → Hp → VK → Prop}
def tCB (r : List V → Hp → VK → Prop) (t : TA) : TE := fun σ H Q => t σ H fun vs H1 => r vs H1 Q
theorem pe_callB (hc : CallR X (.builtin id) r) (hg : Gl X x) (hm : X.mg x = none) (hv : bootBuiltins x = some (.builtin id)) (ha : PA X (e :: es) t) (hn : x ≠ "__name__" := by decide) (hdb : (x == ("__debug__" : Str)) = false := by decide)
    (he : starEach (e :: es) X.env = (false, eval e X.env) :: starEach es X.env := by rfl) (hpl : (backTo pos (starEach es X.env)).any (·.1) = false := by rfl) : PE X (.Call (.Name x p) (e :: es) [] pos) (tCB r t) := by
  intro pins s σ H Q I h
  refine wpAny_Call_Name_kw (ld_blt I hg hm hv ?_ hn hdb)
  exact PyProof.Rows.callWith_builtin1 (thn (ha pos pins s σ H _ I h) fun us s1 ⟨vs, H1, I1, r1, q1⟩ => hc pins s1 σ H1 vs us Q I1 r1 q1) he hpl
theorem pe_callTy (hc : CallR X (.type T) r) (hg : Gl X x) (hm : X.mg x = none) (hv : bootBuiltins x = some (.type T)) (ha : PA X (e :: es) t) (hn : x ≠ "__name__" := by decide) (hdb : (x == ("__debug__" : Str)) = false := by decide)
    (he : starEach (e :: es) X.env = (false, eval e X.env) :: starEach es X.env := by rfl) (hpl : (backTo pos (starEach es X.env)).any (·.1) = false := by rfl) : PE X (.Call (.Name x p) (e :: es) [] pos) (tCB r t) := by
  intro pins s σ H Q I h
  refine wpAny_Call_Name_kw (ld_blt I hg hm hv ?_ hn hdb)
  exact PyProof.Rows.callWith_type1 (thn (ha pos pins s σ H _ I h) fun us s1 ⟨vs, H1, I1, r1, q1⟩ => hc pins s1 σ H1 vs us Q I1 r1 q1) he hpl
end
end L2
namespace HT
open PySem PyProof.Rows
def lexLt : List Int → List Int → Bool
  | [], [] => false
  | [], _ :: _ => true
  | _ :: _, [] => false
  | x :: xs, y :: ys => if x = y then lexLt xs ys else decide (x < y)
theorem lexLt_cons (x y : Int) (xs ys : List Int) : lexLt (x :: xs) (y :: ys) = if x = y then lexLt xs ys else decide (x < y) := rfl
theorem lexLt_nil_nil : lexLt [] [] = false := rfl
theorem eqAt_int (A : Around) (s : Shared) (a : Int) (t : Tok) (c : Int) (u : Tok) : ∃ e, SeqAt.EqAt A s (.int a t) (.int c u) e ∧ (e = true ↔ a = c) :=
  ⟨(a == c), SeqAt.EqAt.int_int a t c u, by simp⟩
theorem rcLt_int (A : Around) (s : Shared) (a : Int) (t : Tok) (c : Int) (u : Tok) (prog : Program) (w : World) (E : Value → Shared → Prop) (Q : Value → Shared → Prop) (h : Q (.bool (decide (a < c))) s) :
    wpAny (model prog w) A (richCompare .Lt (.int a t) (.int c u)) Q E s :=
  (PyProof.Rows.lt_int h : wpAny (model prog w) A (compareOp .Lt (.int a t) (.int c u)) Q E s)
section
open PySem.SeqAt
open PySem.AutoSeq1 (wpAny_loadPart')
open PySem.MeetsSeq PySem.MeetsSeq2 PySem.MeetsSeq3
end
section
variable {prog : Program} {w : World} {A : Around} {E : Value → Shared → Prop} {s : Shared}
theorem cat_tup {t b : Addr} {vs ws : List Value} {Q : Value → Shared → Prop} (ht : IsTup s.heap t vs.toArray) (hb : IsTup s.heap b ws.toArray) (hv : vs ≠ [])
    (h1 : ws = [] → Q (.ref t) s) (h2 : ws ≠ [] → Q (.ref s.heap.objs.size) { s with heap := s.heap.push { cls := .type "tuple", data := .seq (vs ++ ws).toArray } })
    (hsz : vs.length + ws.length ≤ sizeLine) : wpAny (model prog w) A (binaryOp .Add (.ref t) (.ref b)) Q E s := by
  obtain ⟨⟨cls, dd, data, sl⟩, ho, hc, n, hd⟩ := id ht
  obtain ⟨⟨cls2, dd2, data2, sl2⟩, ho2, hc2, n2, hd2⟩ := id hb
  simp only at hc hd hc2 hd2
  subst hc hd hc2 hd2
  have e : vs.toArray ++ ws.toArray = (vs ++ ws).toArray := by simp
  by_cases hw : ws = []
  · exact concat_meets ⟨_, ho, rfl⟩ ⟨_, ho2, rfl⟩ noFill_tuple_add seq_tuple_add PySem.F.slot_tuple_add PySem.F.entry_tuple_add (PySem.F.args_tuple_add_2 _ _)
      (tuple_addW1 t b vs.toArray ws.toArray n n2 dd dd2 sl sl2 (by simpa using hv) (by simp [hw])) ⟨ho, ho2, h1 hw⟩
  · refine concat_meets ⟨_, ho, rfl⟩ ⟨_, ho2, rfl⟩ noFill_tuple_add seq_tuple_add PySem.F.slot_tuple_add PySem.F.entry_tuple_add (PySem.F.args_tuple_add_2 _ _)
      (tuple_addW2 t b vs.toArray ws.toArray n n2 dd dd2 sl sl2 (by simpa using hv) (by simpa using hw) (by rw [List.size_toArray, List.size_toArray]; exact hsz)) ⟨ho, ho2, ?_⟩
    rw [e]
    exact h2 hw
def sIx (n d : Nat) : Option Int → Nat
  | none => d
  | some v => if v < 0 then (v + (n : Int)).toNat else min v.toNat n
theorem sIx_nat (n d k : Nat) : sIx n d (some (k : Int)) = min k n := by
  show (if (k : Int) < 0 then ((k : Int) + (n : Int)).toNat else min (k : Int).toNat n) = min k n
  rw [if_neg (by omega), Int.toNat_natCast]
theorem sIx_le (n d : Nat) (hd : d ≤ n) (o : Option Int) : sIx n d o ≤ n := by
  cases o with
  | none => exact hd
  | some v =>
    show (if v < 0 then (v + (n : Int)).toNat else min v.toNat n) ≤ n
    by_cases hv : v < 0
    · rw [if_pos hv]; omega
    · rw [if_neg hv]; exact Nat.min_le_right _ _
end
end HT
namespace L2
open PySem PySem.Spec PyProof.Rows
abbrev TO := St → Hp → (Option Int → Hp → Prop) → Prop
def PO (X : Cx) (e : Option Expr) (t : TO) : Prop :=
  ∀ (pins : List (Addr × Obj)) (s : Shared) (σ : St) (H : Hp) (Q : Option Int → Hp → Prop), Inv X pins σ H s → t σ H Q →
    wpAny (model X.prog X.w) X.A (evalPart e X.env) (fun u s' => ∃ o H', Inv X pins σ H' s' ∧ IsPart u o ∧ Q o H') X.xe s
def tNoPart : TO := fun _ H Q => Q none H
def tPart (t : TE) : TO := fun σ H Q => t σ H fun x H1 => ∃ i, x = .int i ∧ Q (some i) H1
theorem intsAre_of {ns : List Int} : ∀ {us : List Value}, Vals (ns.map V.int) us → IntsAre us ns := by
  induction ns with
  | nil => intro us r; rw [List.map_nil] at r; cases r; exact .nil
  | cons n ns ih =>
    intro us r
    rw [List.map_cons] at r
    cases r with
    | cons r1 r2 =>
      obtain ⟨t, e⟩ := r1
      subst e
      exact .cons n t (ih r2)
section
variable {X : Cx} {e : Expr} {te : TE} {lo hi : Option Expr} {tl th : TO} {pos p2 : Pos}
theorem po_none : PO X none tNoPart := by
  intro pins s σ H Q I h
  rw [evalPart_none]
  exact wpAny_pure ⟨none, H, I, .none, h⟩
theorem po_some (h : PE X e te) : PO X (some e) (tPart te) := by
  intro pins s σ H Q I hw
  rw [evalPart_some]
  refine thn (h pins s σ H _ I hw) fun u s1 ⟨x, H1, I1, r1, q1⟩ => ?_
  obtain ⟨i, rfl, q⟩ := q1
  obtain ⟨t, rfl⟩ := r1
  exact ⟨some i, H1, I1, .int i t, q⟩
def SlR (X : Cx) (r : V → Option Int → Option Int → Hp → VK → Prop) : Prop :=
  ∀ (pins : List (Addr × Obj)) (s : Shared) (σ : St) (H : Hp) (x : V) (v vl vu : Value) (lo hi : Option Int) (sl : Addr) (Q : VK), Inv X pins σ H s → RelV x v → s.heap.IsSliceOf sl vl vu .none → IsPart vl lo → IsPart vu hi → r x lo hi H Q →
    ∃ T id, typeLookup (.type T) "__getitem__" = pure (some (.builtin id)) ∧ s.TypeIs v T ∧ wpAny (model X.prog X.w) X.A (getItem v (.ref sl)) (EP X pins σ Q) X.xe s
theorem SlR.or {r r' : V → Option Int → Option Int → Hp → VK → Prop} (h : SlR X r) (h' : SlR X r') : SlR X (fun x lo hi H Q => r x lo hi H Q ∨ r' x lo hi H Q) := by
  intro pins s σ H x v vl vu lo hi sl Q I rx hs pl pu q
  rcases q with q | q
  · exact h pins s σ H x v vl vu lo hi sl Q I rx hs pl pu q
  · exact h' pins s σ H x v vl vu lo hi sl Q I rx hs pl pu q
def tSl (r : V → Option Int → Option Int → Hp → VK → Prop) (te : TE) (tl th : TO) : TE := fun σ H Q => te σ H fun x H1 => tl σ H1 fun l H2 => th σ H2 fun u H3 => r x l u H3 Q
theorem pe_slice {r : V → Option Int → Option Int → Hp → VK → Prop} (hr : SlR X r) (he : PE X e te) (hl : PO X lo tl) (hu : PO X hi th) : PE X (.Subscript e (.Slice lo hi none p2) pos) (tSl r te tl th) := by
  intro pins s σ H Q I h
  refine Subscript_ (thn (he pins s σ H _ I h) fun v s1 ⟨x, H1, I1, r1, q1⟩ => ?_)
  refine wpAny_Slice (thn (hl pins s1 σ H1 _ I1 q1) fun vl s2 ⟨l, H2, I2, pl, q2⟩ => thn (hu pins s2 σ H2 _ I2 q2) fun vu s3 ⟨u, H3, I3, pu, q3⟩ => ?_)
  rw [evalPart_none]
  refine wpAny_pure ?_
  have I4 : Inv X pins σ H3 { s3 with heap := s3.heap.push { cls := .type "slice", data := .fields #[vl, vu, .none] } } := I3.kept (t' := s3.toks) fun b ob q => Heap.get?_push_of_some _ q
  obtain ⟨T, id, hT, ht, hg⟩ := hr pins { s3 with heap := s3.heap.push { cls := .type "slice", data := .fields #[vl, vu, .none] } } σ H3 x v vl vu l u s3.heap.objs.size Q I4 r1 (Heap.IsSliceOf.new ..) pl pu q3
  show wpAny (model X.prog X.w) X.A (subscriptTail e (.Slice lo hi none p2) v (.ref s3.heap.objs.size)) (EP X pins σ Q) X.xe { s3 with heap := s3.heap.push { cls := .type "slice", data := .fields #[vl, vu, .none] } }
  exact tail_any (ops := [.ref s3.heap.objs.size, v]) ht hT hg (by with_unfolding_all rfl)
def cutV (xs : List V) (lo hi : Option Int) : List V := (xs.drop (HT.sIx xs.length 0 lo)).take (HT.sIx xs.length xs.length hi - HT.sIx xs.length 0 lo)
theorem cutV_length (xs : List V) (lo hi : Option Int) : (cutV xs lo hi).length ≤ xs.length := by
  unfold cutV
  rw [List.length_take, List.length_drop]
  omega
def rSlT (K : PySem.W.Frag) : V → Option Int → Option Int → Hp → VK → Prop := fun x lo hi H Q => ∃ a xs, x = .ref a ∧ SqT K H a xs ∧
  ¬ (HT.sIx xs.length 0 lo = 0 ∧ HT.sIx xs.length xs.length hi = xs.length) ∧ ∀ p, H p = none → Q (.ref p) (upd H p (.tup (cutV xs lo hi)))
def rLtT (K : PySem.W.Frag) : R2 := fun x y H Q => ∃ a b ns ms, x = .ref a ∧ y = .ref b ∧ SqT K H a (ns.map V.int) ∧ SqT K H b (ms.map V.int) ∧ Q (.bl (HT.lexLt ns ms)) H
def rCatT (K : PySem.W.Frag) : R2 := fun x y H Q => ∃ a b xs ys, x = .ref a ∧ y = .ref b ∧ SqT K H a xs ∧ SqT K H b ys ∧ xs ≠ [] ∧ xs.length + ys.length ≤ sizeLine ∧
  (ys = [] → Q (.ref a) H) ∧ (ys ≠ [] → ∀ p, H p = none → Q (.ref p) (upd H p (.tup (xs ++ ys))))
theorem Vals.nil_iff {xs : List V} {us : List Value} (r : Vals xs us) : us = [] ↔ xs = [] := by
  cases r with
  | nil => simp
  | cons _ _ => simp
theorem op_catT : OpR X (binaryOp .Add) (rCatT X.K) := by
  intro pins s σ H x y v u Q I rx ry h
  obtain ⟨a, b, xs, ys, rfl, rfl, ha, hb, hx, hz, q1, q2⟩ := h
  cases rx
  cases ry
  obtain ⟨its, r1, p1, _⟩ := I.tuple ha
  obtain ⟨its2, r2, p2, _⟩ := I.tuple hb
  refine HT.cat_tup p1 p2 (fun z => hx (r1.nil_iff.mp z)) (fun z => ⟨.ref a, H, I, rfl, q1 (r2.nil_iff.mp z)⟩) (fun z => ?_) (by rw [← r1.length, ← r2.length]; exact hz)
  refine ⟨.ref s.heap.objs.size, _, I.laid (t' := s.toks) (o := .tup (xs ++ ys)) (fun b ob q => Heap.get?_push_of_some _ q) (Nat.le_refl _) ?_, rfl, q2 (fun w => z (r2.nil_iff.mpr w)) _ (I.hok.fresh (Nat.le_refl _))⟩
  exact ⟨by rw [List.length_append]; exact hz, _, r1.append r2, IsTup.new _ _⟩
end
end L2
namespace L2
open PySem PySem.Spec PyProof.Rows
def ixN (n : Nat) (i : Int) : Option Nat := if 0 ≤ i then (if i < n then some i.toNat else none) else if -(n : Int) ≤ i then some (i + n).toNat else none
def atI {α : Type} (xs : List α) (i : Int) : Option α := (ixN xs.length i).bind fun j => xs[j]?
theorem ixN_seq {n : Nat} {i : Int} {j : Nat} (h : ixN n i = some j) : seqIndex? i n = some j ∧ j < n ∧ -(n : Int) ≤ i ∧ i < n := by
  unfold ixN at h
  by_cases h0 : 0 ≤ i
  · rw [if_pos h0] at h
    by_cases h1 : i < n
    · rw [if_pos h1] at h
      have e : i.toNat = j := Option.some.inj h
      exact ⟨by rw [seqIndex_of h0 h1, e], by omega, by omega, h1⟩
    · rw [if_neg h1] at h; cases h
  · rw [if_neg h0] at h
    by_cases h1 : -(n : Int) ≤ i
    · rw [if_pos h1] at h
      have e : (i + n).toNat = j := Option.some.inj h
      exact ⟨by rw [seqIndex_neg (by omega) h1, e], by omega, h1, by omega⟩
    · rw [if_neg h1] at h; cases h
theorem atI_get {α : Type} {xs : List α} {i : Int} {v : α} (h : atI xs i = some v) : ∃ j, seqIndex? i xs.length = some j ∧ xs[j]? = some v ∧ j < xs.length ∧ -(xs.length : Int) ≤ i ∧ i < xs.length := by
  unfold atI at h
  cases e : ixN xs.length i with
  | none => rw [e] at h; cases h
  | some j =>
    rw [e] at h
    obtain ⟨h1, h2, h3, h4⟩ := ixN_seq e
    exact ⟨j, h1, h, h2, h3, h4⟩
theorem atI_nat {α : Type} {xs : List α} {j : Nat} {v : α} (h : xs[j]? = some v) : atI xs (j : Int) = some v := by
  have hj : j < xs.length := (List.getElem?_eq_some_iff.mp h).1
  have e : ixN xs.length (j : Int) = some j := by
    unfold ixN
    rw [if_pos (by omega), if_pos (by omega)]; simp
  unfold atI; rw [e]; exact h
theorem atI_last {α : Type} (xs : List α) (v : α) : atI (xs ++ [v]) (-1) = some v := by
  have hl : (xs ++ [v]).length = xs.length + 1 := by simp
  have e : ixN (xs ++ [v]).length (-1) = some xs.length := by
    unfold ixN
    rw [hl, if_neg (by decide), if_pos (by omega)]
    congr 1
    omega
  unfold atI
  rw [e]
  show (xs ++ [v])[xs.length]? = some v
  simp
def PlainIx (b : Expr) : Prop := ∀ o i, subscripted b false o i = operate [o, i] (getItem o i)
def IxR (X : Cx) (r : R2) : Prop :=
  ∀ (value slice : Expr) (pins : List (Addr × Obj)) (s : Shared) (σ : St) (H : Hp) (x y : V) (v u : Value) (Q : VK), Inv X pins σ H s → RelV x v → RelV y u → r x y H Q →
    subscripted slice false v u = operate [v, u] (getItem v u) → wpAny (model X.prog X.w) X.A (subscriptTail value slice v u) (EP X pins σ Q) X.xe s
def MtR (X : Cx) (id : String) (r : V → List V → Hp → VK → Prop) : Prop :=
  ∀ (pins : List (Addr × Obj)) (s : Shared) (σ : St) (H : Hp) (x : V) (xs : List V) (v : Value) (us : List Value) (Q : VK), Inv X pins σ H s → RelV x v → Vals xs us → r x xs H Q →
    wpAny (model X.prog X.w) X.A (call (.builtin id) (v :: us)) (EP X pins σ Q) X.xe s
section
variable {X : Cx} {a b : Expr} {ta tb : TE} {pos : Pos}
theorem IxR.or {r r' : R2} (h : IxR X r) (h' : IxR X r') : IxR X (fun x y H Q => r x y H Q ∨ r' x y H Q) := by
  intro value slice pins s σ H x y v u Q I rx ry q hs
  rcases q with q | q
  · exact h value slice pins s σ H x y v u Q I rx ry q hs
  · exact h' value slice pins s σ H x y v u Q I rx ry q hs
theorem MtR.or {id : String} {r r' : V → List V → Hp → VK → Prop} (h : MtR X id r) (h' : MtR X id r') : MtR X id (fun x xs H Q => r x xs H Q ∨ r' x xs H Q) := by
  intro pins s σ H x xs v us Q I rx rs q
  rcases q with q | q
  · exact h pins s σ H x xs v us Q I rx rs q
  · exact h' pins s σ H x xs v us Q I rx rs q
theorem pe_ix {r : R2} (hr : IxR X r) (ha : PE X a ta) (hb : PE X b tb) (hs : PlainIx b) : PE X (.Subscript a b pos) (tOp r ta tb) := by
  intro pins s σ H Q I h
  exact Subscript_ (binT ha hb I h fun v u s2 x y H2 I2 rx ry q => hr a b pins s2 σ H2 x y v u Q I2 rx ry q (hs _ _))
def rIxL (K : PySem.W.Frag) : R2 := fun x y H Q => ∃ p xs i v, x = .ref p ∧ y = .int i ∧ SqL K H p xs ∧ atI xs i = some v ∧ Q v H
def rIxT (K : PySem.W.Frag) : R2 := fun x y H Q => ∃ p xs i v, x = .ref p ∧ y = .int i ∧ SqT K H p xs ∧ atI xs i = some v ∧ Q v H
def rIxS : R2 := fun x y H Q => ∃ z i c, x = .str z ∧ y = .int i ∧ z.length ≤ sizeLine ∧ atI z.cps.toList i = some c ∧ Q (.str ⟨#[c]⟩) H
theorem ix_list : IxR X (rIxL X.K) := by
  intro value slice pins s σ H x y v u Q I rx ry h hs
  obtain ⟨p, xs, i, z, rfl, rfl, hq, he, q⟩ := h
  cases rx
  obtain ⟨t, rfl⟩ := ry
  obtain ⟨its, r, pl, hz⟩ := I.list hq
  obtain ⟨j, h1, h2, h3, h4, h5⟩ := atI_get he
  obtain ⟨w, ew, rw'⟩ := r.get h2
  have hl := r.length
  have hn := line63
  have fin : EP X pins σ Q w s := ⟨z, H, I, rw', q⟩
  by_cases h0 : 0 ≤ i
  · have hj : i.toNat = j := by
      rw [seqIndex_of h0 h5] at h1
      exact Option.some.inj h1
    exact item_listR pl.isList h0 (by omega) (by rw [hj]; simpa using ew) fin hs
  · have hj : (i + (its.toArray.size : Int)).toNat = j := by
      rw [seqIndex_neg (by omega) h4] at h1
      rw [List.size_toArray, ← hl]
      exact Option.some.inj h1
    exact subscriptTail_builtinR (x := w) pl.isList.typeIs slot_list_getitem.lookup
      (wpAny_getItem_list_neg (Q := fun r s' => r = w ∧ EP X pins σ Q r s') pl.isList (by omega) (by rw [List.size_toArray] <;> omega) (by omega) (by rw [hj]; simpa using ew) ⟨rfl, fin⟩) hs
theorem ix_tup : IxR X (rIxT X.K) := by
  intro value slice pins s σ H x y v u Q I rx ry h hs
  obtain ⟨p, xs, i, z, rfl, rfl, hq, he, q⟩ := h
  cases rx
  obtain ⟨t, rfl⟩ := ry
  obtain ⟨its, r, pl, hz⟩ := I.tuple hq
  obtain ⟨j, h1, h2, h3, h4, h5⟩ := atI_get he
  obtain ⟨w, ew, rw'⟩ := r.get h2
  have hl := r.length
  have hn := line63
  have fin : EP X pins σ Q w s := ⟨z, H, I, rw', q⟩
  exact subscriptTail_builtinR (x := w) pl.typeIs slot_tuple_getitem.lookup
    (getItem_tuple (j := j) (Q := fun r s' => r = w ∧ EP X pins σ Q r s') pl (by omega) (by omega) (by rw [List.size_toArray, ← hl]; exact h1) (by simpa using ew) ⟨rfl, fin⟩) hs
theorem ix_str : IxR X rIxS := by
  intro value slice pins s σ H x y v u Q I rx ry h hs
  obtain ⟨z, i, c, rfl, rfl, hz, he, q⟩ := h
  obtain ⟨t, rfl⟩ := rx
  obtain ⟨t', rfl⟩ := ry
  obtain ⟨j, h1, h2, h3, h4, h5⟩ := atI_get he
  have hl : z.cps.toList.length = z.length := by simp [Str.length]
  rw [hl] at h1 h4 h5
  have hn := line63
  exact tail_any (typeIs_str s z t) slot_str_getitem.lookup (getItem_str (c := c) (by
    have e1 : decide (i < -(2 ^ 63 : Int)) = false := decide_eq_false (by omega)
    have e2 : decide (i ≥ 2 ^ 63) = false := decide_eq_false (by omega)
    rw [e1, e2, Bool.or_false]) (by rw [h1]; simpa using h2) ⟨.str ⟨#[c]⟩, H, I.tok _, ⟨_, rfl⟩, q⟩) hs
def rIx (K : PySem.W.Frag) : R2 := fun x y H Q => rIxL K x y H Q ∨ rIxT K x y H Q ∨ rIxS x y H Q
theorem Inv.lst {pins : List (Addr × Obj)} {σ : St} {H : Hp} {s : Shared} {p : Addr} {xs : List V} (I : Inv X pins σ H s) (h : H p = some (.lst xs)) :
    ∃ (its : List Value) (n : Nat), Vals xs its ∧ s.heap.get? p = some { cls := .type "list", data := .seq its.toArray n } ∧ xs.length ≤ sizeLine := by
  obtain ⟨z, its, n, r, e⟩ := I.hok p _ h
  exact ⟨its, n, r, e, z⟩
def rSetL : V → V → V → Hp → (Hp → Prop) → Prop := fun o i v H Q => ∃ p xs k j, o = .ref p ∧ i = .int k ∧ H p = some (.lst xs) ∧ ixN xs.length k = some j ∧ Q (upd H p (.lst (xs.set j v)))
theorem slice_bounds (lo hi : Option Int) (n : Nat) : (sliceBounds lo hi none n).1 = ((HT.sIx n 0 lo : Nat) : Int) ∧ (sliceBounds lo hi none n).2.1 = ((HT.sIx n n hi : Nat) : Int) ∧ (sliceBounds lo hi none n).2.2 = 1 := by
  refine ⟨?_, ?_, rfl⟩
  · cases lo with
    | none => simp [sliceBounds, HT.sIx]
    | some i =>
      simp only [sliceBounds, HT.sIx, Option.getD_none, show (1 : Int) > 0 by decide, if_true]
      by_cases h : i < 0
      · simp only [h, if_true] <;> omega
      · simp only [h, if_false] <;> omega
  · cases hi with
    | none => simp [sliceBounds, HT.sIx]
    | some i =>
      simp only [sliceBounds, HT.sIx, Option.getD_none, show (1 : Int) > 0 by decide, if_true]
      by_cases h : i < 0
      · simp only [h, if_true] <;> omega
      · simp only [h, if_false] <;> omega
theorem slicePick_cut (its : List Value) (lo hi : Option Int) : slicePick its.toArray lo hi none = ((its.drop (HT.sIx its.length 0 lo)).take (HT.sIx its.length its.length hi - HT.sIx its.length 0 lo)).toArray := by
  obtain ⟨h1, h2, h3⟩ := slice_bounds lo hi its.toArray.size
  unfold slicePick
  rw [h1, h2, h3]
  simp only [sliceRange_one, pick_run, List.size_toArray] <;> rfl
def rSlL (K : PySem.W.Frag) : V → Option Int → Option Int → Hp → VK → Prop := fun x lo hi H Q => ∃ a xs, x = .ref a ∧ SqL K H a xs ∧ ∀ p, H p = none → Q (.ref p) (upd H p (.lst (cutV xs lo hi)))
theorem sl_list : SlR X (rSlL X.K) := by
  intro pins s σ H x v vl vu lo hi sl Q I rx hs pl pu h
  obtain ⟨a, xs, rfl, hx, q⟩ := h
  cases rx
  obtain ⟨its, r, ht, hz⟩ := I.list hx
  have hlen := r.length
  refine ⟨"list", _, slot_list_getitem.lookup, ht.isList.typeIs, ?_⟩
  refine wpAny_getItem_list_slice ht.isList hs pl pu .none (by simp) ?_ (by rw [List.size_toArray] <;> omega)
  rw [slicePick_cut, ← hlen]
  refine ⟨.ref s.heap.objs.size, _, I.laid (t' := s.toks) (o := .lst (cutV xs lo hi)) (fun b ob q => Heap.get?_push_of_some _ q) (Nat.le_refl _) ?_, rfl, q _ (I.hok.fresh (Nat.le_refl _))⟩
  exact ⟨Nat.le_trans (cutV_length xs lo hi) hz, _, 0, (r.drop (HT.sIx xs.length 0 lo)).take (HT.sIx xs.length xs.length hi - HT.sIx xs.length 0 lo), Heap.get?_push_size _ rfl⟩
def flatV : V → Bool
  | .non => true
  | .bl _ => true
  | .int _ => true
  | .str _ => true
  | _ => false
def eqV : V → V → Bool
  | .non, .non => true
  | .bl a, .bl b => a == b
  | .bl a, .int b => (if a then 1 else 0) == b
  | .int a, .bl b => a == (if b then 1 else 0)
  | .int a, .int b => a == b
  | .str a, .str b => a == b
  | _, _ => false
theorem eqAt_V {A : Around} {s : Shared} {y x : V} {u v : Value} (ry : RelV y u) (rx : RelV x v) (fy : flatV y = true) (fx : flatV x = true) : SeqAt.EqAt A s u v (eqV y x) := by
  cases y with
  | non =>
    cases ry
    cases x with
    | non => cases rx; exact SeqAt.EqAt.same _
    | bl b => cases rx; exact SeqAt.EqAt.none_bool b
    | int b => obtain ⟨t, rfl⟩ := rx; exact SeqAt.EqAt.none_int b t
    | str b => obtain ⟨t, rfl⟩ := rx; exact SeqAt.EqAt.none_str b t
    | _ => exact absurd (show false = true from fx) Bool.false_ne_true
  | bl a =>
    cases ry
    cases x with
    | non => cases rx; exact SeqAt.EqAt.bool_none a
    | bl b => cases rx; exact SeqAt.EqAt.bool_bool a b
    | int b => obtain ⟨t, rfl⟩ := rx; exact SeqAt.EqAt.bool_int a b t
    | str b => obtain ⟨t, rfl⟩ := rx; exact SeqAt.EqAt.bool_str a b t
    | _ => exact absurd (show false = true from fx) Bool.false_ne_true
  | int a =>
    obtain ⟨t', rfl⟩ := ry
    cases x with
    | non => cases rx; exact SeqAt.EqAt.int_none a t'
    | bl b => cases rx; exact SeqAt.EqAt.int_bool a t' b
    | int b => obtain ⟨t, rfl⟩ := rx; exact SeqAt.EqAt.int_int a t' b t
    | str b => obtain ⟨t, rfl⟩ := rx; exact SeqAt.EqAt.int_str a t' b t
    | _ => exact absurd (show false = true from fx) Bool.false_ne_true
  | str a =>
    obtain ⟨t', rfl⟩ := ry
    cases x with
    | non => cases rx; exact SeqAt.EqAt.str_none a t'
    | bl b => cases rx; exact SeqAt.EqAt.str_bool a t' b
    | int b => obtain ⟨t, rfl⟩ := rx; exact SeqAt.EqAt.str_int a t' b t
    | str b => obtain ⟨t, rfl⟩ := rx; exact SeqAt.EqAt.str_str a t' b t
    | _ => exact absurd (show false = true from fx) Bool.false_ne_true
  | _ => exact absurd (show false = true from fy) Bool.false_ne_true
def eqU (x : V) (u : Value) : Bool := match u with
  | .none => eqV .non x
  | .bool b => eqV (.bl b) x
  | .int i _ => eqV (.int i) x
  | .str z _ => eqV (.str z) x
  | _ => false
theorem eqU_of {x y : V} {u : Value} (r : RelV y u) (f : flatV y = true) : eqU x u = eqV y x := by
  cases y with
  | non => cases r; rfl
  | bl b => cases r; rfl
  | int i => obtain ⟨t, rfl⟩ := r; rfl
  | str z => obtain ⟨t, rfl⟩ := r; rfl
  | _ => exact absurd (show false = true from f) Bool.false_ne_true
theorem any_eqU {x : V} : ∀ {xs : List V} {us : List Value}, Vals xs us → xs.all flatV = true → us.any (eqU x) = xs.any fun y => eqV y x
  | _, _, .nil, _ => rfl
  | y :: xs, u :: us, .cons r t, f => by
    rw [List.all_cons, Bool.and_eq_true] at f
    rw [List.any_cons, List.any_cons, eqU_of r f.1, any_eqU t f.2]
theorem mem_eqAt {A : Around} {s : Shared} {x : V} {v : Value} (rx : RelV x v) (fx : flatV x = true) : ∀ {xs : List V} {us : List Value}, Vals xs us → xs.all flatV = true → ∀ u ∈ us, SeqAt.EqAt A s u v (eqU x u)
  | _, _, .nil, _ => fun u hu => by cases hu
  | y :: xs, u :: us, .cons r t, f => fun u' hu => by
    rw [List.all_cons, Bool.and_eq_true] at f
    rcases List.mem_cons.mp hu with rfl | hu
    · rw [eqU_of r f.1]; exact eqAt_V r rx f.1 fx
    · exact mem_eqAt rx fx t f.2 u' hu
def inV (x : V) (xs : List V) : Bool := xs.any fun y => eqV y x
def rIn (K : PySem.W.Frag) (neg : Bool) : R2 := fun x y H Q => ∃ p xs, y = .ref p ∧ (SqL K H p xs ∨ SqT K H p xs) ∧ flatV x = true ∧ xs.all flatV = true ∧ Q (.bl (if neg then !inV x xs else inV x xs)) H
theorem op_in_seq : OpR X (compareOp .In) (rIn X.K false) := by
  intro pins s σ H x y v u Q I rx ry h
  obtain ⟨p, xs, rfl, hq, fx, fs, q⟩ := h
  cases ry
  rcases hq with hq | hq
  · obtain ⟨its, r, pl, hz⟩ := I.list hq
    refine SeqAt.in_listAt (eqU x) pl.isList (fun w hw => mem_eqAt rx fx r fs w (by simpa using hw)) ⟨.bl _, H, I, rfl, ?_⟩
    rw [show its.toArray.any (eqU x) = its.any (eqU x) by simp, any_eqU r fs]
    exact q
  · obtain ⟨its, r, pl, hz⟩ := I.tuple hq
    refine SeqAt.in_tupleAt (eqU x) pl (fun w hw => mem_eqAt rx fx r fs w (by simpa using hw)) ⟨.bl _, H, I, rfl, ?_⟩
    rw [show its.toArray.any (eqU x) = its.any (eqU x) by simp, any_eqU r fs]
    exact q
theorem op_notIn_seq : OpR X (compareOp .NotIn) (rIn X.K true) := by
  intro pins s σ H x y v u Q I rx ry h
  obtain ⟨p, xs, rfl, hq, fx, fs, q⟩ := h
  cases ry
  rcases hq with hq | hq
  · obtain ⟨its, r, pl, hz⟩ := I.list hq
    refine SeqAt.notIn_listAt (eqU x) pl.isList (fun w hw => mem_eqAt rx fx r fs w (by simpa using hw)) ⟨.bl _, H, I, rfl, ?_⟩
    rw [show its.toArray.any (eqU x) = its.any (eqU x) by simp, any_eqU r fs]
    exact q
  · obtain ⟨its, r, pl, hz⟩ := I.tuple hq
    refine SeqAt.notIn_tupleAt (eqU x) pl (fun w hw => mem_eqAt rx fx r fs w (by simpa using hw)) ⟨.bl _, H, I, rfl, ?_⟩
    rw [show its.toArray.any (eqU x) = its.any (eqU x) by simp, any_eqU r fs]
    exact q
theorem call_len_seq : CallR X (.builtin "len") (fun xs H Q => ∃ p ys, xs = [.ref p] ∧ (SqL X.K H p ys ∨ SqT X.K H p ys) ∧ Q (.int ys.length) H) := by
  intro pins s σ H xs us Q I r h
  obtain ⟨p, ys, rfl, hq, q⟩ := h
  obtain ⟨u, rfl, rx⟩ := vals1 r
  cases rx
  have hn := line63
  rcases hq with hq | hq
  · obtain ⟨its, r', pl, hz⟩ := I.list hq
    have hlen := r'.length
    exact Calls.call_len_list pl.isList (by simp only [List.size_toArray] <;> omega) ⟨.int ys.length, H, I.tok _, ⟨s.toks + 1, by rw [List.size_toArray, hlen]⟩, q⟩
  · obtain ⟨its, r', pl, hz⟩ := I.tuple hq
    have hlen := r'.length
    exact len_tuple pl (by simp only [List.size_toArray] <;> omega) ⟨.int ys.length, H, I.tok _, ⟨s.toks + 1, by rw [List.size_toArray, hlen]⟩, q⟩
theorem call_len_str : CallR X (.builtin "len") (fun xs H Q => ∃ z, xs = [.str z] ∧ z.length ≤ sizeLine ∧ Q (.int z.length) H) := by
  intro pins s σ H xs us Q I r h
  obtain ⟨z, rfl, hz, q⟩ := h
  obtain ⟨u, rfl, t, rfl⟩ := vals1 r
  have hn := line63
  exact len_str (by omega) ⟨.int z.length, H, I.tok _, ⟨_, rfl⟩, q⟩
theorem CallR.or {f : Value} {r r' : List V → Hp → VK → Prop} (h : CallR X f r) (h' : CallR X f r') : CallR X f (fun xs H Q => r xs H Q ∨ r' xs H Q) := by
  intro pins s σ H xs us Q I rs q
  rcases q with q | q
  · exact h pins s σ H xs us Q I rs q
  · exact h' pins s σ H xs us Q I rs q
theorem call_tuple_of : CallR X (.type "tuple") (fun xs H Q => ∃ p ys, xs = [.ref p] ∧ ((SqL X.K H p ys ∧ ∀ l, H l = none → Q (.ref l) (upd H l (.tup ys))) ∨ (SqT X.K H p ys ∧ Q (.ref p) H))) := by
  intro pins s σ H xs us Q I r h
  obtain ⟨p, ys, rfl, h⟩ := h
  obtain ⟨u, rfl, rx⟩ := vals1 r
  cases rx
  rcases h with ⟨hq, q⟩ | ⟨hq, q⟩
  · obtain ⟨its, r', pl, hz⟩ := I.list hq
    have hlen := r'.length
    refine call_tuple_list pl.isList (fun h' kp => ?_) (by simp only [List.size_toArray] <;> omega)
    have I1 : Inv X pins σ H { s with heap := h' } := I.kept (t' := s.toks) kp
    have I2 : Inv X pins σ (upd H h'.objs.size (.tup ys)) { s with heap := h'.push { cls := .type "tuple", data := .seq its.toArray } } :=
      I1.laid (t' := s.toks) (fun b o e => Heap.get?_push_of_some _ e) (Nat.le_refl _) (show ObjOk X.prog X.w _ _ _ (.tup ys) from ⟨hz, its, r', IsTup.new _ _⟩)
    exact ⟨.ref h'.objs.size, _, I2, rfl, q _ (I1.hok.fresh (Nat.le_refl _))⟩
  · obtain ⟨its, r', pl, hz⟩ := I.tuple hq
    exact call_tuple_same pl ⟨.ref p, H, I, rfl, q⟩
def tyV (K : PySem.W.Frag) (T : String) (x : V) (H : Hp) : Prop := match x with
  | .str _ => T = "str"
  | .int _ => T = "int"
  | .ref p => (T = "list" ∧ ∃ xs, SqL K H p xs) ∨ (T = "tuple" ∧ ∃ o, K.lookup p = some o ∧ o.cls = .type "tuple" ∧ o.dict = none) ∨
      (T = "dict" ∧ ((∃ kvs, H p = some (.dK kvs)) ∨ ∃ kvs, H p = some (.dT kvs))) ∨ (T = "set" ∧ ∃ S n, H p = some (.set S n))
  | _ => False
theorem tyV_is {pins : List (Addr × Obj)} {σ : St} {H : Hp} {s : Shared} {T : String} {x : V} {v : Value} (I : Inv X pins σ H s) (r : RelV x v) (ty : tyV X.K T x H) :
    s.TypeIs v T ∧ ∀ a, v = .ref a → ∃ ob, s.heap.get? a = some ob ∧ ob.dict = none := by
  cases x with
  | str z =>
    obtain ⟨t, rfl⟩ := r
    cases (show T = "str" from ty)
    exact ⟨typeIs_str s z t, fun _ e => nomatch e⟩
  | int i =>
    obtain ⟨t, rfl⟩ := r
    cases (show T = "int" from ty)
    exact ⟨typeIs_int s i t, fun _ e => nomatch e⟩
  | ref p =>
    cases r
    rcases ty with ⟨rfl, xs, hq⟩ | ⟨rfl, o, hk, hc, hd⟩ | ⟨rfl, hk⟩ | ⟨rfl, S, n, hk⟩
    · obtain ⟨its, _, pl, _⟩ := I.list hq
      refine ⟨pl.isList.typeIs, fun a e => ?_⟩
      cases e
      obtain ⟨o, n, e, c, hd, _⟩ := pl
      exact ⟨o, e, hd⟩
    · refine ⟨⟨o, I.kIn p o hk, hc⟩, fun a e => ?_⟩
      cases e
      exact ⟨o, I.kIn _ o hk, hd⟩
    · have z : ∃ o, s.heap.get? p = some o ∧ o.ExactDict := by
        rcases hk with ⟨kvs, hk⟩ | ⟨kvs, hk⟩
        · obtain ⟨_, _, _, _, o, _, _, e, ex, _⟩ := I.hok p _ hk
          exact ⟨o, e, ex⟩
        · obtain ⟨_, _, _, _, o, _, _, e, ex, _⟩ := I.hok p _ hk
          exact ⟨o, e, ex⟩
      obtain ⟨o, e, ex⟩ := z
      refine ⟨⟨o, e, ex.1⟩, fun a e2 => ?_⟩
      cases e2
      exact ⟨o, e, ex.2.1⟩
    · obtain ⟨o, _, _, _, e, ex, _⟩ := I.hok p _ hk
      refine ⟨⟨o, e, ex.1⟩, fun a e2 => ?_⟩
      cases e2
      exact ⟨o, e, ex.2.1⟩
  | _ => exact False.elim ty
def tBM0 (K : PySem.W.Frag) (T : String) (r : V → List V → Hp → VK → Prop) (to : TE) : TE := fun σ H Q => to σ H fun x H1 => tyV K T x H1 ∧ r x [] H1 Q
def tBM (K : PySem.W.Frag) (T : String) (r : V → List V → Hp → VK → Prop) (to : TE) (t : TA) : TE := fun σ H Q => to σ H fun x H1 => tyV K T x H1 ∧ t σ H1 fun xs H2 => r x xs H2 Q
variable {o e : Expr} {es : List Expr} {to : TE} {t : TA} {name : Str} {apos cpos : Pos} {T id : String} {r : V → List V → Hp → VK → Prop}
theorem pe_bm0 (pa : PlainAttrs T) (slot : Slot T name id) (hty : typeOf (.builtin id) = pure (.type "method_descriptor")) (hm : MtR X id r) (ho : PE X o to)
    (hbase : attributeBase o name X.env (eval o X.env) = eval o X.env := by rfl) (hline : (apos.endLine == cpos.line) = true := by rfl) : PE X (.Call (.Attribute o name apos) [] [] cpos) (tBM0 X.K T r to) := by
  intro pins s σ H Q I h
  refine wpAny_Call_method0_late hbase hline (thn (ho pins s σ H _ I h) fun v s1 ⟨x, H1, I1, r1, ty, q1⟩ => ?_)
  obtain ⟨h1, h2⟩ := tyV_is I1 r1 ty
  exact ⟨T, id, pa, slot, hty, h1, h2, Calls.callWith_builtin rfl (PySem.evalArgs_none (hm pins s1 σ H1 x [] v [] Q I1 r1 .nil q1))⟩
theorem pe_bm (pa : PlainAttrs T) (slot : Slot T name id) (hty : typeOf (.builtin id) = pure (.type "method_descriptor")) (hm : MtR X id r) (ho : PE X o to) (ha : PA X (e :: es) t)
    (hbase : attributeBase o name X.env (eval o X.env) = eval o X.env := by rfl)
    (hfew : ((backTo cpos (starEach (e :: es) X.env)).all (fun x => !x.1) && (backToKw cpos (keywordEach [] X.env)).all (fun x => x.1.isSome)
      && decide ((e :: es).length + ([] : List Keyword).length + (if ([] : List Keyword).isEmpty then 0 else 1) < 30)) = true := by rfl)
    (hline : (apos.endLine == cpos.line) = true := by rfl) (hs : starEach (e :: es) X.env = (false, eval e X.env) :: starEach es X.env := by rfl) (hplain : (backTo cpos (starEach es X.env)).any (·.1) = false := by rfl) :
    PE X (.Call (.Attribute o name apos) (e :: es) [] cpos) (tBM X.K T r to t) := by
  intro pins s σ H Q I h
  refine wpAny_Call_method_late hbase hfew hline rfl (thn (ho pins s σ H _ I h) fun v s1 ⟨x, H1, I1, r1, ty, q1⟩ => ?_)
  obtain ⟨h1, h2⟩ := tyV_is I1 r1 ty
  refine ⟨T, id, pa, slot, hty, h1, h2, ?_⟩
  have hA := ha cpos pins s1 σ H1 _ I1 q1
  rw [hs] at hA ⊢
  refine Calls.callWith_builtin (by show (false || (backTo cpos (starEach es X.env)).any (·.1)) = false; rw [hplain] <;> rfl) (Calls.evalArgs_plain ?_)
  exact thn hA fun us s2 ⟨vs, H2, I2, r2, q2⟩ => hm pins s2 σ H2 x vs v us Q I2 r1 r2 q2
end
end L2
namespace L2
open PySem PySem.Spec PyProof.Rows
def MtM (X : Cx) (id : String) (r : V → List V → Hp → VK → Prop) : Prop :=
  ∀ (pins : List (Addr × Obj)) (s : Shared) (σ : St) (H : Hp) (x : V) (xs : List V) (v : Value) (us : List Value) (Q : VK), Inv X pins σ H s → RelV x v → Vals xs us → r x xs H Q →
    wpAny (model X.prog X.w) X.A (call (.builtin id) (v :: us)) (EP X pins σ Q) X.xe s
theorem Vals.one : ∀ {x : V} {us : List Value}, Vals [x] us → ∃ u, us = [u] ∧ RelV x u
  | _, _, .cons r .nil => ⟨_, rfl, r⟩
theorem Vals.zero : ∀ {us : List Value}, Vals [] us → us = []
  | _, .nil => rfl
theorem Vals.dropLast {xs : List V} {us : List Value} (h : Vals xs us) : Vals xs.dropLast us.dropLast := by
  induction h with
  | nil => exact .nil
  | cons r t ih =>
    cases t with
    | nil => exact .nil
    | cons q t' => exact .cons r ih
theorem Vals.eraseIdx : ∀ {xs : List V} {us : List Value} (i : Nat), Vals xs us → Vals (xs.eraseIdx i) (us.eraseIdx i)
  | _, _, _, .nil => .nil
  | _, _, 0, .cons _ t => t
  | _, _, i + 1, .cons r t => .cons r (Vals.eraseIdx i t)
theorem Vals.reverse {xs : List V} {us : List Value} (h : Vals xs us) : Vals xs.reverse us.reverse := by
  induction h with
  | nil => exact .nil
  | cons r t ih => rw [List.reverse_cons, List.reverse_cons]; exact Vals.append ih (.cons r .nil)
theorem Vals.rep {xs : List V} {us : List Value} (h : Vals xs us) : ∀ k : Nat, Vals (List.replicate k xs).flatten (List.replicate k us).flatten
  | 0 => .nil
  | k + 1 => by
    rw [List.replicate_succ, List.replicate_succ, List.flatten_cons, List.flatten_cons]
    exact Vals.append h (Vals.rep h k)
section
variable {X : Cx} {pins : List (Addr × Obj)} {σ : St} {H : Hp} {s : Shared} {l b : Addr} {xs ys zs : List V}
theorem Inv.lset {its its' : List Value} {n : Nat} {f : Array Value → Array Value} {t' : Nat} (I : Inv X pins σ H s) (hH : H l = some (.lst xs))
    (e : s.heap.get? l = some { cls := .type "list", data := .seq its.toArray n }) (hf : f its.toArray = its'.toArray) (hv : Vals ys its') (hz : ys.length ≤ sizeLine) :
    Inv X pins σ (upd H l (.lst ys)) { s with heap := s.heap.update l (Obj.mapSeq f), toks := t' } := by
  have q := PySem.IsL.update e f
  rw [hf] at q
  refine I.write (x := l) (e := l) (by rw [hH]; exact trivial) (.inl rfl) (fun b' u hb hu => (Heap.get?_update_other s.heap (Obj.mapSeq f) (Ne.symm hb)).trans hu) ⟨_, q⟩ ?_
  exact ⟨hz, its', _, hv, q⟩
theorem Inv.lnew {its : List Value} {t' : Nat} (I : Inv X pins σ H s) (hv : Vals ys its) (hz : ys.length ≤ sizeLine) :
    Inv X pins σ (upd H s.heap.objs.size (.lst ys)) { s with heap := s.heap.push { cls := .type "list", data := .seq its.toArray }, toks := t' } :=
  I.laid (fun _ _ q => Heap.get?_push_of_some _ q) (Nat.le_refl _) ⟨hz, its, 0, hv, Heap.get?_push_size _ rfl⟩
theorem Inv.fresh (I : Inv X pins σ H s) : H s.heap.objs.size = none := I.hok.fresh (Nat.le_refl _)
theorem Inv.lstM (I : Inv X pins σ H s) (hH : H l = some (.lst xs)) : xs.length ≤ sizeLine ∧ ∃ (its : List Value) (n : Nat), Vals xs its ∧ xs.length = its.length ∧ s.heap.get? l = some { cls := .type "list", data := .seq its.toArray n } := by
  obtain ⟨z, its, n, r, e⟩ := I.hok l _ hH
  exact ⟨z, its, n, r, r.length, e⟩
theorem notLongL {n : Nat} (h : n ≤ sizeLine) : Builtin.List.listTooLong n = false := by
  unfold Builtin.List.listTooLong
  exact decide_eq_false (by omega)
end
section
variable {X : Cx}
def rAppend : V → List V → Hp → VK → Prop := fun x vs H Q => ∃ l xs y, x = .ref l ∧ vs = [y] ∧ H l = some (.lst xs) ∧ xs.length < sizeLine ∧ Q .non (upd H l (.lst (xs ++ [y])))
def rExtend : V → List V → Hp → VK → Prop := fun x vs H Q => ∃ l b xs zs, x = .ref l ∧ vs = [.ref b] ∧ H l = some (.lst xs) ∧ H b = some (.lst zs) ∧ xs.length + zs.length ≤ sizeLine ∧ Q .non (upd H l (.lst (xs ++ zs)))
theorem mt_extend : MtM X "list.extend" rExtend := by
  intro pins s σ H x vs v us Q I rx rv h
  obtain ⟨l, b, xs, zs, rfl, rfl, hH, hB, hz, q⟩ := h
  cases rx
  obtain ⟨u, rfl, ru⟩ := rv.one
  cases ru
  obtain ⟨z, its, n, r, hl, e⟩ := I.lstM hH
  obtain ⟨z2, its2, n2, r2, hl2, e2⟩ := I.lstM hB
  have hsz : its.toArray.size + its2.toArray.size ≤ sizeLine := by rw [List.size_toArray, List.size_toArray]; omega
  have hlong : ¬ (!its.toArray.isEmpty && Builtin.List.listTooLong (its.toArray.size + its2.toArray.size)) = true := by
    rw [notLongL hsz, Bool.and_false]
    exact Bool.false_ne_true
  refine call_meets F.slot_list_extend ⟨_, e, rfl⟩ F.entry_list_extend (F.args_list_extend_2 _ _)
    (AutoSeq1.list_extend_list_list_0 l its.toArray n b its2.toArray n2 hlong (by rw [List.size_toArray]; omega) (by omega)) ⟨e, e2, ?_⟩
  refine ⟨.non, _, I.lset (its' := its ++ its2) hH e (by simp) (r.append r2) ?_, rfl, q⟩
  rw [List.length_append]
  omega
def rPop : V → List V → Hp → VK → Prop := fun x vs H Q => ∃ l xs y, x = .ref l ∧ vs = [] ∧ H l = some (.lst xs) ∧ xs[xs.length - 1]? = some y ∧ Q y (upd H l (.lst xs.dropLast))
def rPopAt : V → List V → Hp → VK → Prop := fun x vs H Q => ∃ l xs i k y, x = .ref l ∧ vs = [.int i] ∧ H l = some (.lst xs) ∧ -(2 ^ 63) ≤ i ∧ i < 2 ^ 63 ∧ seqIndex? i xs.length = some k ∧ xs[k]? = some y ∧ Q y (upd H l (.lst (xs.eraseIdx k)))
def rReverse : V → List V → Hp → VK → Prop := fun x vs H Q => ∃ l xs, x = .ref l ∧ vs = [] ∧ H l = some (.lst xs) ∧ Q .non (upd H l (.lst xs.reverse))
def rClear : V → List V → Hp → VK → Prop := fun x vs H Q => ∃ l xs, x = .ref l ∧ vs = [] ∧ H l = some (.lst xs) ∧ Q .non (upd H l (.lst []))
def rCat : R2 := fun x y H Q => ∃ l b xs zs, x = .ref l ∧ y = .ref b ∧ H l = some (.lst xs) ∧ H b = some (.lst zs) ∧ xs.length + zs.length ≤ sizeLine ∧ ∀ p, H p = none → Q (.ref p) (upd H p (.lst (xs ++ zs)))
theorem op_cat : OpR X (binaryOp .Add) rCat := by
  intro pins s σ H x y v u Q I rx ry h
  obtain ⟨l, b, xs, zs, rfl, rfl, hH, hB, hz, q⟩ := h
  cases rx
  cases ry
  obtain ⟨z, its, n, r, hl, e⟩ := I.lstM hH
  obtain ⟨z2, its2, n2, r2, hl2, e2⟩ := I.lstM hB
  refine PySem.P.add_list e e2 ?_ (by rw [List.size_toArray, List.size_toArray]; omega)
  have ea : its.toArray ++ its2.toArray = (its ++ its2).toArray := by simp
  rw [ea]
  exact ⟨.ref _, _, I.lnew (t' := s.toks) (r.append r2) (by rw [List.length_append]; omega), rfl, q _ I.fresh⟩
def rRep : R2 := fun x y H Q => ∃ l k xs, x = .ref l ∧ y = .int k ∧ H l = some (.lst xs) ∧ -(2 ^ 63) ≤ k ∧ k < 2 ^ 63 ∧ xs.length * k.toNat ≤ sizeLine ∧
  ∀ p, H p = none → Q (.ref p) (upd H p (.lst (List.replicate k.toNat xs).flatten))
end
section
variable {prog : Program} {w : World} {A : Around} {E : Value → Shared → Prop} {s : Shared}
end
section
variable {X : Cx}
end
end L2
namespace L2
open PySem PySem.Spec PyProof.Rows
section
variable {κ : Type} [DecidableEq κ]
def valV (kvs : List (κ × V)) (k : κ) : Option V := (kvs.find? fun kv => decide (kv.1 = k)).map (·.2)
def putK (kvs : List (κ × V)) (k : κ) (v : V) : List (κ × V) :=
  if (kvs.any fun kv => decide (kv.1 = k)) = true then kvs.map (fun kv => if kv.1 = k then (kv.1, v) else kv) else kvs ++ [(k, v)]
def dropK (kvs : List (κ × V)) (k : κ) : List (κ × V) := kvs.filter fun kv => decide (kv.1 ≠ k)
theorem valV_pos {p : κ × V} {r : List (κ × V)} {k : κ} (e : p.1 = k) : valV (p :: r) k = some p.2 := by simp [valV, List.find?_cons, e]
theorem valV_neg {p : κ × V} {r : List (κ × V)} {k : κ} (e : ¬ p.1 = k) : valV (p :: r) k = valV r k := by simp [valV, List.find?_cons, e]
theorem valV_any (k : κ) : ∀ kvs : List (κ × V), (kvs.any fun kv => decide (kv.1 = k)) = (valV kvs k).isSome
  | [] => rfl
  | p :: r => by
    rw [List.any_cons]
    by_cases e : p.1 = k
    · simp only [valV_pos e, decide_eq_true e, Bool.true_or, Option.isSome_some]
    · rw [valV_neg e, decide_eq_false e, Bool.false_or]; exact valV_any k r
theorem length_putK (kvs : List (κ × V)) (k : κ) (v : V) : (putK kvs k v).length ≤ kvs.length + 1 := by
  unfold putK
  split
  · rw [List.length_map]; omega
  · rw [List.length_append, List.length_cons, List.length_nil]; omega
theorem RelO.isSome_eq {o : Option V} {u : Option Value} (r : RelO o u) : o.isSome = u.isSome := by
  cases o with
  | none => cases u with
    | none => rfl
    | some _ => exact (show False from r).elim
  | some _ => cases u with
    | none => exact (show False from r).elim
    | some _ => rfl
theorem RelO.getD {o : Option V} {u : Option Value} {d : V} {d' : Value} (r : RelO o u) (rd : RelV d d') : RelV (o.getD d) (u.getD d') := by
  cases o with
  | none => cases u with
    | none => exact rd
    | some _ => exact (show False from r).elim
  | some _ => cases u with
    | none => exact (show False from r).elim
    | some _ => exact r
theorem KV.val {kvs : List (κ × V)} {vs : List (κ × Value)} (r : KV kvs vs) (k : κ) : RelO (valV kvs k) (valueAt vs k) := by
  unfold KV at r
  induction r with
  | nil => exact True.intro
  | @cons p q ps qs h t ih =>
    obtain ⟨h1, h2⟩ := h
    by_cases e : p.1 = k
    · have e' : q.1 = k := h1.symm.trans e
      have b : valueAt (q :: qs) k = some q.2 := by simp [valueAt, List.find?_cons, e']
      rw [valV_pos e, b]; exact h2
    · have e' : ¬ q.1 = k := fun z => e (h1.trans z)
      have b : valueAt (q :: qs) k = valueAt qs k := by simp [valueAt, List.find?_cons, e']
      rw [valV_neg e, b]; exact ih
theorem KV.any {kvs : List (κ × V)} {vs : List (κ × Value)} (r : KV kvs vs) (k : κ) : (kvs.any fun kv => decide (kv.1 = k)) = vs.any fun kv => decide (kv.1 = k) := by
  unfold KV at r
  induction r with
  | nil => rfl
  | cons h t ih => rw [List.any_cons, List.any_cons, ih, h.1]
theorem KV.repl {kvs : List (κ × V)} {vs : List (κ × Value)} (r : KV kvs vs) (k : κ) {y : V} {u : Value} (ry : RelV y u) :
    KV (kvs.map fun kv => if kv.1 = k then (kv.1, y) else kv) (vs.map fun kv => if kv.1 = k then (kv.1, u) else kv) := by
  unfold KV at r ⊢
  induction r with
  | nil => exact .nil
  | @cons p q ps qs h t ih =>
    rw [List.map_cons, List.map_cons]
    refine .cons ?_ ih
    obtain ⟨h1, h2⟩ := h
    by_cases e : p.1 = k
    · rw [if_pos e, if_pos (h1.symm.trans e)]; exact ⟨h1, ry⟩
    · rw [if_neg e, if_neg (fun z => e (h1.trans z))]; exact ⟨h1, h2⟩
theorem KV.put {kvs : List (κ × V)} {vs : List (κ × Value)} (r : KV kvs vs) (k : κ) {y : V} {u : Value} (ry : RelV y u) : KV (putK kvs k y) (stored vs k u) := by
  unfold putK stored
  rw [r.any k]
  by_cases e : (vs.any fun kv => decide (kv.1 = k)) = true
  · rw [if_pos e, if_pos e]; exact r.repl k ry
  · rw [if_neg e, if_neg e]; exact Paired.snoc r ⟨rfl, ry⟩
theorem KV.drop {kvs : List (κ × V)} {vs : List (κ × Value)} (r : KV kvs vs) (k : κ) : KV (dropK kvs k) (without vs k) := by
  unfold KV at r ⊢
  unfold dropK without
  induction r with
  | nil => exact .nil
  | @cons p q ps qs h t ih =>
    obtain ⟨h1, h2⟩ := h
    rw [List.filter_cons, List.filter_cons]
    by_cases e : p.1 = k
    · have a : ¬ decide (p.1 ≠ k) = true := by simp [e]
      have b : ¬ decide (q.1 ≠ k) = true := by simp [h1.symm.trans e]
      rw [if_neg a, if_neg b]; exact ih
    · have e' : ¬ q.1 = k := fun z => e (h1.trans z)
      have a : decide (p.1 ≠ k) = true := by simp [e]
      have b : decide (q.1 ≠ k) = true := by simp [e']
      rw [if_pos a, if_pos b]; exact .cons ⟨h1, h2⟩ ih
theorem KV.keys {kvs : List (κ × V)} {vs : List (κ × Value)} (r : KV kvs vs) : kvs.map (·.1) = vs.map (·.1) := by
  unfold KV at r
  induction r with
  | nil => rfl
  | cons h t ih => rw [List.map_cons, List.map_cons, ih, h.1]
theorem KV.length {kvs : List (κ × V)} {vs : List (κ × Value)} (r : KV kvs vs) : kvs.length = vs.length := Paired.length r
end
theorem kV_is {P : Program} {w : World} {k : Key} {u : Value} (r : RelV (kV k) u) : (mixKind P w).is k u = true := by
  cases k with
  | inl i => obtain ⟨t, e⟩ := (show ∃ t, u = Value.int i t from r); subst e; exact mixKind_int P w i t
  | inr x => obtain ⟨t, e⟩ := (show ∃ t, u = Value.str x t from r); subst e; exact mixKind_str P w x t
theorem items_are {P : Program} {w : World} : ∀ {ks : List Key} {us : List Value}, Vals (ks.map kV) us → ItemsAre (mixKind P w) ks us
  | [], _, r => by rw [List.map_nil] at r; cases r; exact .nil
  | k :: ks, _, r => by
    rw [List.map_cons] at r
    cases r with
    | cons h t => exact .cons (kV_is h) (items_are t)
abbrev KT (H : Hp) : List (List Key × V) → List (List Key × Addr × Value) → Prop := Paired fun p q => p.1 = q.1 ∧ H q.2.1 = some (.tup (p.1.map kV)) ∧ RelV p.2 q.2.2
theorem KT.val {H : Hp} {kvs : List (List Key × V)} {xs : List (List Key × Addr × Value)} (r : KT H kvs xs) (k : List Key) : RelO (valV kvs k) ((atKey xs k).map (·.2)) := by
  induction r with
  | nil => exact True.intro
  | @cons p q ps qs h t ih =>
    obtain ⟨h1, _, h2⟩ := h
    by_cases e : p.1 = k
    · have e' : q.1 = k := h1.symm.trans e
      have b : atKey (q :: qs) k = some q.2 := by simp [atKey, List.find?_cons, e']
      rw [valV_pos e, b]; exact h2
    · have e' : ¬ q.1 = k := fun z => e (h1.trans z)
      have b : atKey (q :: qs) k = atKey qs k := by simp [atKey, List.find?_cons, e']
      rw [valV_neg e, b]; exact ih
theorem KT.repl {H : Hp} {kvs : List (List Key × V)} {xs : List (List Key × Addr × Value)} (r : KT H kvs xs) (k : List Key) {y : V} {u : Value} (ry : RelV y u) :
    KT H (kvs.map fun kv => if kv.1 = k then (kv.1, y) else kv) (xs.map (putAt k u)) := by
  induction r with
  | nil => exact .nil
  | @cons p q ps qs h t ih =>
    rw [List.map_cons, List.map_cons]
    refine .cons ?_ ih
    obtain ⟨h1, h2, h3⟩ := h
    unfold putAt
    by_cases e : p.1 = k
    · rw [if_pos e, if_pos (h1.symm.trans e)]; exact ⟨h1, h2, ry⟩
    · rw [if_neg e, if_neg (fun z => e (h1.trans z))]; exact ⟨h1, h2, h3⟩
theorem KT.put {H : Hp} {kvs : List (List Key × V)} {xs : List (List Key × Addr × Value)} (r : KT H kvs xs) (k : List Key) {b : Addr} {y : V} {u : Value} (hb : H b = some (.tup (k.map kV))) (ry : RelV y u) :
    KT H (putK kvs k y) (storedH xs k b u) := by
  have e : (kvs.any fun kv => decide (kv.1 = k)) = (atKey xs k).isSome := by
    rw [valV_any, (r.val k).isSome_eq, Option.isSome_map]
  unfold putK storedH
  rw [e]
  by_cases q : (atKey xs k).isSome = true
  · rw [if_pos q, if_pos q]; exact r.repl k ry
  · rw [if_neg q, if_neg q]; exact Paired.snoc r ⟨rfl, hb, ry⟩
theorem KT.keeps {H H' : Hp} {kvs : List (List Key × V)} {xs : List (List Key × Addr × Value)} (r : KT H kvs xs) (ht : ∀ b ys, H b = some (.tup ys) → H' b = some (.tup ys)) : KT H' kvs xs :=
  Paired.mapP r fun _ _ z => ⟨z.1, ht _ _ z.2.1, z.2.2⟩
section
variable {P : Program} {w : World} {H : Hp} {h : Heap} {a : Addr}
theorem rd_of {u : HO} (ok : HOk P w H h) (e : Rd H a u) : ObjOk P w H h a u := e.ok ok
theorem dk_rd {kvs : List (Key × V)} (ok : HOk P w H h) (e : Rd H a (.dK kvs)) : kvs.length ≤ sizeLine ∧ (a == sysModules) = false ∧ ∃ vs, KV kvs vs ∧ h.DictOf (mixKind P w) a vs :=
  show ObjOk P w H h a (.dK kvs) from rd_of ok e
theorem dk_of {kvs : List (Key × V)} (ok : HOk P w H h) (e : H a = some (.dK kvs)) : kvs.length ≤ sizeLine ∧ (a == sysModules) = false ∧ ∃ vs, KV kvs vs ∧ h.DictOf (mixKind P w) a vs := dk_rd ok (.inl e)
theorem key_of {ks : List Key} (ok : HOk P w H h) (e : H a = some (.tup (ks.map kV))) : (tupleKind (mixKind P w)).is h ks a := by
  obtain ⟨_, its, r, o, h1, h2, n, h3⟩ := (show ObjOk P w H h a (.tup (ks.map kV)) from ok a _ e)
  exact ⟨o, its.toArray, n, h1, h2, h3, by simpa using items_are r⟩
theorem dt_rd {kvs : List (List Key × V)} (ok : HOk P w H h) (e : Rd H a (.dT kvs)) : kvs.length ≤ sizeLine ∧ (a == sysModules) = false ∧
    ∃ xs, KT H kvs xs ∧ h.DictOfH (tupleKind (mixKind P w)) a xs := by
  obtain ⟨z, y, xs, r, o, es, ep, h1, h2, h3, h4, h5⟩ := (show ObjOk P w H h a (.dT kvs) from rd_of ok e)
  refine ⟨z, y, xs, r, o, es, ep, h1, h2, h3, h4, fun x hx => ?_, h5⟩
  have all : ∀ {l : List (List Key × V)} {m : List (List Key × Addr × Value)}, KT H l m → ∀ x ∈ m, (tupleKind (mixKind P w)).is h x.1 x.2.1 := by
    intro l m q
    induction q with
    | nil => intro x hx; exact nomatch hx
    | @cons p q ps qs hq t ih =>
      intro x hx
      rcases List.mem_cons.mp hx with e | hx
      · subst e
        exact key_of ok (by rw [← hq.1]; exact hq.2.1)
      · exact ih x hx
  exact all r x hx
theorem dt_of {kvs : List (List Key × V)} (ok : HOk P w H h) (e : H a = some (.dT kvs)) : kvs.length ≤ sizeLine ∧ (a == sysModules) = false ∧
    ∃ xs, KT H kvs xs ∧ h.DictOfH (tupleKind (mixKind P w)) a xs := dt_rd ok (.inl e)
end
def DGet (H : Hp) (a : Addr) (y : V) (r : Option V) : Prop :=
  (∃ kvs k, Rd H a (.dK kvs) ∧ y = kV k ∧ r = valV kvs k) ∨ ∃ kvs k b, Rd H a (.dT kvs) ∧ y = .ref b ∧ H b = some (.tup (k.map kV)) ∧ r = valV kvs k
def DPut (H : Hp) (a : Addr) (y v : V) (H' : Hp) : Prop :=
  (∃ kvs k, H a = some (.dK kvs) ∧ y = kV k ∧ kvs.length < sizeLine ∧ H' = upd H a (.dK (putK kvs k v))) ∨
  ∃ kvs k b, H a = some (.dT kvs) ∧ y = .ref b ∧ H b = some (.tup (k.map kV)) ∧ kvs.length < sizeLine ∧ H' = upd H a (.dT (putK kvs k v))
theorem DGet.k {H : Hp} {a : Addr} {kvs : List (Key × V)} {k : Key} (e : H a = some (.dK kvs)) : DGet H a (kV k) (valV kvs k) := .inl ⟨kvs, k, .inl e, rfl, rfl⟩
theorem DGet.t {H : Hp} {a b : Addr} {kvs : List (List Key × V)} {k : List Key} (e : H a = some (.dT kvs)) (eb : H b = some (.tup (k.map kV))) : DGet H a (.ref b) (valV kvs k) := .inr ⟨kvs, k, b, .inl e, rfl, eb, rfl⟩
theorem DPut.k {H : Hp} {a : Addr} {kvs : List (Key × V)} {k : Key} {v : V} (e : H a = some (.dK kvs)) (hl : kvs.length < sizeLine) : DPut H a (kV k) v (upd H a (.dK (putK kvs k v))) := .inl ⟨kvs, k, e, rfl, hl, rfl⟩
theorem DPut.t {H : Hp} {a b : Addr} {kvs : List (List Key × V)} {k : List Key} {v : V} (e : H a = some (.dT kvs)) (eb : H b = some (.tup (k.map kV))) (hl : kvs.length < sizeLine) :
    DPut H a (.ref b) v (upd H a (.dT (putK kvs k v))) := .inr ⟨kvs, k, b, e, rfl, eb, hl, rfl⟩
section
variable {X : Cx} {pins : List (Addr × Obj)} {σ : St} {H : Hp} {s : Shared} {a : Addr} {y v : V} {u r : Value} {o : Option V} {A : Around} {E : Value → Shared → Prop}
theorem Inv.big (I : Inv X pins σ H s) : sysModules < s.heap.objs.size := by
  have h : mainGlobals < s.heap.objs.size := (I.mod.glob.keeps I.bk).lt
  exact Nat.lt_trans (by decide) h
theorem d_getItem {Q : Value → Shared → Prop} (hu : A.units + 1 < cLine) (I : Inv X pins σ H s) (g : DGet H a y (some v)) (ry : RelV y u) (h : ∀ w' s', Inv X pins σ H s' → RelV v w' → Q w' s') :
    wpAny (model X.prog X.w) A (getItem (.ref a) u) Q E s := by
  rcases g with ⟨kvs, k, e, ey, l⟩ | ⟨kvs, k, b, e, ey, eb, l⟩
  · subst ey
    obtain ⟨z, hd, vs, rel, dd⟩ := dk_rd I.hok e
    obtain ⟨w', hw, rw'⟩ := RelO.some_of (v := v) (o := valueAt vs k) (by rw [l]; exact rel.val k)
    exact wpAny_getItem_of (kV_is ry) dd.mapOf hw (h w' _ (I.tok _) rw')
  · subst ey
    cases (show u = Value.ref b from ry)
    obtain ⟨z, hd, xs, rel, dd⟩ := dt_rd I.hok e
    obtain ⟨w', hw, rw'⟩ := RelO.some_of (v := v) (o := (atKey xs k).map (·.2)) (by rw [l]; exact rel.val k)
    obtain ⟨p, hp, hp2⟩ := Option.map_eq_some_iff.mp hw
    refine wpAny_getItem_heap (tupleKind_room_in1 hu) (key_of I.hok eb) dd hp ?_
    rw [hp2]
    exact h w' _ (I.tok _) rw'
theorem d_notIn {Q : Value → Shared → Prop} (hu : A.units + 1 < cLine) (I : Inv X pins σ H s) (g : DGet H a y o) (ry : RelV y u) (h : ∀ s', Inv X pins σ H s' → Q (.bool (!o.isSome)) s') :
    wpAny (model X.prog X.w) A (compareOp .NotIn u (.ref a)) Q E s := by
  rcases g with ⟨kvs, k, e, ey, l⟩ | ⟨kvs, k, b, e, ey, eb, l⟩
  · subst ey
    obtain ⟨z, hd, vs, rel, dd⟩ := dk_rd I.hok e
    refine wpAny_notIn_of (kV_is ry) hd dd.mapOf ?_
    rw [← (rel.val k).isSome_eq, ← l]
    exact h _ (I.tok _)
  · subst ey
    cases (show u = Value.ref b from ry)
    obtain ⟨z, hd, xs, rel, dd⟩ := dt_rd I.hok e
    refine wpAny_notIn_heap (tupleKind_room_in1 hu) (key_of I.hok eb) hd dd ?_
    have q := (rel.val k).isSome_eq
    rw [Option.isSome_map] at q
    rw [← q, ← l]
    exact h _ (I.tok _)
theorem d_write {h' : Heap} {t' : Nat} {ob : HO} (I : Inv X pins σ H s) (mu : Mut (H a)) (hs : Heap.SameBut a s.heap h') (he : ∃ q, h'.get? a = some q) (new : ObjOk X.prog X.w (upd H a ob) h' a ob) :
    Inv X pins σ (upd H a ob) { s with heap := h', toks := t' } :=
  I.write (x := a) (e := a) mu (.inl rfl) (fun b q hb z => (hs.2 b hb).trans z) he new
theorem dk_new {P : Program} {w : World} {H' : Hp} {h' : Heap} {kvs : List (Key × V)} {vs : List (Key × Value)} (z : kvs.length ≤ sizeLine) (hd : (a == sysModules) = false) (rel : KV kvs vs) (dd : h'.DictOf (mixKind P w) a vs) :
    ObjOk P w H' h' a (.dK kvs) := ⟨z, hd, vs, rel, dd⟩
theorem d_setItem {H' : Hp} {Q : Unit → Shared → Prop} (hu : A.units + 1 < cLine) (I : Inv X pins σ H s) (g : DPut H a y v H') (ry : RelV y u) (rv : RelV v r) (h : ∀ s', Inv X pins σ H' s' → Q () s') :
    wpAny (model X.prog X.w) A (setItem (.ref a) u r) Q E s := by
  rcases g with ⟨kvs, k, e, ey, l, eH⟩ | ⟨kvs, k, b, e, ey, eb, l, eH⟩
  · subst ey eH
    obtain ⟨z, hd, vs, rel, dd⟩ := dk_of I.hok e
    have hz : vs.length ≤ sizeLine := by rw [← rel.length]; exact z
    have hl : (putK kvs k v).length ≤ sizeLine := by have := length_putK kvs k v; omega
    refine wpAny_setItem_pairs (hsz := hz) (kV_is ry) dd fun h' dd' hs => h _ ?_
    have he : ∃ q, h'.get? a = some q := let ⟨q, _, _, hq, _⟩ := dd'; ⟨q, hq⟩
    exact d_write I (by rw [e]; exact True.intro) hs he (dk_new hl hd (rel.put k rv) dd')
  · subst ey eH
    cases (show u = Value.ref b from ry)
    obtain ⟨z, hd, xs, rel, dd⟩ := dt_of I.hok e
    have hz : xs.length ≤ sizeLine := by rw [← Paired.length rel]; exact z
    have hl : (putK kvs k v).length ≤ sizeLine := by have := length_putK kvs k v; omega
    refine wpAny_setItem_heap (hsz := hz) (tupleKind_room_in1 hu) (key_of I.hok eb) dd fun h' dd' hs => h _ ?_
    obtain ⟨q, es, ep, hq, h2, h3, h4, _, h5⟩ := dd'
    refine d_write I (by rw [e]; exact True.intro) hs ⟨q, hq⟩ ⟨hl, hd, _, (rel.put k eb rv).keeps fun c ys ec => ?_, q, es, ep, hq, h2, h3, h4, h5⟩
    rw [upd_ne (ne_of ec e (fun z => nomatch z))]
    exact ec
end
section
variable {X : Cx} {pins : List (Addr × Obj)} {σ : St} {H : Hp} {s : Shared} {a : Addr} {kvs : List (Key × V)} {k : Key} {u : Value} {A : Around} {E : Value → Shared → Prop}
end
def NoSl (i : Expr) : Prop := ∀ ov iv, subscripted i false ov iv = operate [ov, iv] (getItem ov iv)
theorem subD_of {prog : Program} {w : World} {A : Around} {E : Value → Shared → Prop} {s : Shared} {env : Env} {value slice : Expr} {pos : Pos} {T id : String} {Q : Value → Shared → Prop}
    (hl : typeLookup (.type T) "__getitem__" = pure (some (.builtin id))) (hs : NoSl slice)
    (h : wpAny (model prog w) A (eval value env) (fun o s₁ => wpAny (model prog w) A (eval slice env) (fun i s₂ => s₂.TypeIs o T ∧ wpAny (model prog w) A (getItem o i) Q E s₂) E s₁) E s) :
    wpAny (model prog w) A (eval (.Subscript value slice pos) env) Q E s := by
  refine Subscript_ (wpAny_mono h (fun o s₁ h₁ => wpAny_mono h₁ (fun i s₂ h₂ => ?_) fun _ _ x => x) fun _ _ x => x)
  obtain ⟨hT, h₂⟩ := h₂
  unfold subscriptTail
  refine wpAny_bind ?_
  rw [getitemInPython_of_ne hT.not_modules]
  refine wpAny_bind (wpAny_specialOf hT hl ?_)
  have fin : wpAny (model prog w) A (subscripted slice false o i) (fun r s₃ => wpAny (model prog w) A (letTemporaryGo value o r >>= fun _ => pure r) Q E s₃) E s₂ := by
    rw [hs o i]
    exact wpAny_operating (wpAny_mono h₂ (fun r s₃ h₃ => wpAny_bind (wpAny_letTemporaryGo (wpAny_pure h₃))) fun _ _ x => x)
  first
    | exact wpAny_pure (wpAny_bind fin)
    | exact wpAny_bind (wpAny_pure (wpAny_bind fin))
    | exact wpAny_bind fin
theorem dict_typeIs {X : Cx} {pins : List (Addr × Obj)} {σ : St} {H : Hp} {s : Shared} {a : Addr} {y : V} {o : Option V} (I : Inv X pins σ H s) (g : DGet H a y o) : s.TypeIs (.ref a) "dict" := by
  rcases g with ⟨kvs, k, e, _, _⟩ | ⟨kvs, k, b, e, _, _, _⟩
  · obtain ⟨_, _, vs, _, dd⟩ := dk_rd I.hok e
    exact dd.typeIs
  · obtain ⟨_, _, xs, _, dd⟩ := dt_rd I.hok e
    exact dd.typeIs
def tDGet (td ty : TE) : TE := fun σ H Q => td σ H fun x H1 => ty σ H1 fun y H2 => ∃ a v, x = .ref a ∧ DGet H2 a y (some v) ∧ Q v H2
def tDIn (ty td : TE) : TE := fun σ H Q => ty σ H fun y H1 => td σ H1 fun x H2 => ∃ a o, x = .ref a ∧ DGet H2 a y o ∧ Q (.bl o.isSome) H2
def tDNotIn (ty td : TE) : TE := fun σ H Q => ty σ H fun y H1 => td σ H1 fun x H2 => ∃ a o, x = .ref a ∧ DGet H2 a y o ∧ Q (.bl (!o.isSome)) H2
def sDPut (td ty tv : TE) : TS := fun D σ H => tv σ H fun v H1 => td σ H1 fun x H2 => ty σ H2 fun y H3 => ∃ a H4, x = .ref a ∧ DPut H3 a y v H4 ∧ D.nx σ H4
def sDAug (td ty tv : TE) (rd : V → V → Hp → VK → Prop) : TS := fun D σ H => td σ H fun x H1 => ty σ H1 fun y H2 => ∃ a v, x = .ref a ∧ DGet H2 a y (some v) ∧
  tv σ H2 fun y2 H3 => rd v y2 H3 fun z H4 => ∃ H5, DPut H4 a y z H5 ∧ D.nx σ H5
def sDDel (td ty : TE) : TS := fun D σ H => td σ H fun x H1 => ty σ H1 fun y H2 => ∃ a kvs k, x = .ref a ∧ H2 a = some (.dK kvs) ∧ y = kV k ∧ (valV kvs k).isSome = true ∧ D.nx σ (upd H2 a (.dK (dropK kvs k)))
section
variable {X : Cx} {o i e value : Expr} {pos pos' tpos : Pos} {td ty tv : TE}
theorem pe_dget (hu : X.A.units + 1 < cLine) (ho : PE X o td) (hi : PE X i ty) (hs : NoSl i) : PE X (.Subscript o i pos) (tDGet td ty) := by
  intro pins s σ H Q I h
  refine subD_of PySem.F.slot_dict_getitem.lookup hs (thn (ho pins s σ H _ I h) fun u s1 ⟨x, H1, I1, rx, q1⟩ => thn (hi pins s1 σ H1 _ I1 q1) fun iv s2 ⟨y, H2, I2, ry, a, v, ex, g, q2⟩ => ?_)
  subst ex
  obtain rfl : u = Value.ref a := rx
  exact ⟨dict_typeIs I2 g, d_getItem hu I2 g ry fun w' s3 I3 rw' => ⟨v, H2, I3, rw', q2⟩⟩
theorem pc_dnotin (hu : X.A.units + 1 < cLine) (hi : PE X i ty) (ho : PE X o td) : PC X .NotIn i o (tDNotIn ty td) := by
  intro pins s σ H Q I h
  refine thn (hi pins s σ H _ I h) fun iv s1 ⟨y, H1, I1, ry, q1⟩ => thn (ho pins s1 σ H1 _ I1 q1) fun u s2 ⟨x, H2, I2, rx, a, ov, ex, g, q2⟩ => ?_
  subst ex
  obtain rfl : u = Value.ref a := rx
  exact d_notIn hu I2 g ry fun s3 I3 => ⟨.bl (!ov.isSome), H2, I3, rfl, q2⟩
theorem ps_dput (hu : X.A.units + 1 < cLine) (ho : PE X o td) (hi : PE X i ty) (hv : PE X value tv) (hs : swapsWith value (some (.Subscript o i pos')) pos.line X.env = pure false) :
    PS X (.Assign [.Subscript o i pos'] value pos) (sDPut td ty tv) := by
  intro pins s σ H D I h
  refine wpAny_Assign_Subscript (thn (hv pins s σ H _ I h) fun r s1 ⟨v, H1, I1, rv, q1⟩ => thn (ho pins s1 σ H1 _ I1 q1) fun u s2 ⟨x, H2, I2, rx, q2⟩ => thn (hi pins s2 σ H2 _ I2 q2) fun iv s3 ⟨y, H3, I3, ry, a, H4, ex, g, q3⟩ => ?_) hs
  subst ex
  obtain rfl : u = Value.ref a := rx
  exact d_setItem hu I3 g ry rv fun s4 I4 => ⟨σ, H4, I4, q3⟩
end
theorem dk_empty {P : Program} {w : World} {H : Hp} (h : Heap) (hb : sysModules < h.objs.size) : ObjOk P w H (h.push { cls := .type "dict", data := .dict #[] }) h.objs.size (.dK []) :=
  ⟨Nat.zero_le _, beq_eq_false_iff_ne.mpr (Ne.symm (Nat.ne_of_lt hb)), [], .nil, Heap.DictOf.new h⟩
def tDNewK : TE := fun _ H Q => ∀ p, H p = none → Q (.ref p) (upd H p (.dK []))
def tDNewT : TE := fun _ H Q => ∀ p, H p = none → Q (.ref p) (upd H p (.dT []))
section
variable {X : Cx} {pos : Pos}
theorem pe_dnewK : PE X (.Dict [] [] pos) tDNewK := fun pins s σ H Q I h =>
  wpAny_Dict_empty ⟨.ref s.heap.objs.size, _, I.laid (a := s.heap.objs.size) (o := .dK []) (t' := s.toks) (fun _ _ q => Heap.get?_push_of_some _ q) (Nat.le_refl _) (dk_empty s.heap I.big), rfl, h _ (I.hok.fresh (Nat.le_refl _))⟩
end
def tPairs : List (TE × TE) → St → Hp → (List (V × V) → Hp → Prop) → Prop
  | [], _, H, Q => Q [] H
  | (tk, tv) :: r, σ, H, Q => tk σ H fun x H1 => tv σ H1 fun y H2 => tPairs r σ H2 fun ps H3 => Q ((x, y) :: ps) H3
abbrev VV : List (V × V) → List (Value × Value) → Prop := Paired fun p q => RelV p.1 q.1 ∧ RelV p.2 q.2
def PPs (X : Cx) (pos : Pos) (keys : List (Option Expr)) (values : List Expr) (trs : List (TE × TE)) : Prop :=
  ∀ (pins : List (Addr × Obj)) (s : Shared) (σ : St) (H : Hp) (Q : List (V × V) → Hp → Prop), Inv X pins σ H s → tPairs trs σ H Q →
    wpAny (model X.prog X.w) X.A (evalPairs (pairTrees keys values X.env pos)) (fun vs s' => ∃ ps H', Inv X pins σ H' s' ∧ VV ps vs ∧ Q ps H') X.xe s
def mergeK (kvs more : List (Key × V)) : List (Key × V) := more.foldl (fun acc kv => putK acc kv.1 kv.2) kvs
def tDisp (trs : List (TE × TE)) : TE := fun σ H Q => ∀ p, H p = none → tPairs trs σ (upd H p (.dK [])) fun ps H2 => H2 p = some (.dK []) ∧ ∃ kvs : List (Key × V), ps = kvs.map (fun kv => (kV kv.1, kv.2)) ∧ kvs.length ≤ 15 ∧ Q (.ref p) (upd H2 p (.dK (mergeK [] kvs)))
structure M1 (X : Cx) (o : Expr) (m : Str) (apos : Pos) (e : Expr) (cpos : Pos) : Prop where
  base : attributeBase o m X.env (eval o X.env) = eval o X.env
  few : ((backTo cpos (starEach [e] X.env)).all (fun x => !x.1) && (backToKw cpos (keywordEach [] X.env)).all (fun x => x.1.isSome)
    && decide (([e] : List Expr).length + ([] : List Keyword).length + (if ([] : List Keyword).isEmpty then 0 else 1) < 30)) = true
  line : (apos.endLine == cpos.line) = true
  trees : backTo cpos (starEach [e] X.env) = [(false, eval e X.env)]
structure M2 (X : Cx) (o : Expr) (m : Str) (apos : Pos) (e f : Expr) (cpos : Pos) : Prop where
  base : attributeBase o m X.env (eval o X.env) = eval o X.env
  few : ((backTo cpos (starEach [e, f] X.env)).all (fun x => !x.1) && (backToKw cpos (keywordEach [] X.env)).all (fun x => x.1.isSome)
    && decide (([e, f] : List Expr).length + ([] : List Keyword).length + (if ([] : List Keyword).isEmpty then 0 else 1) < 30)) = true
  line : (apos.endLine == cpos.line) = true
  trees : backTo cpos (starEach [e, f] X.env) = [(false, eval e X.env), (false, eval f X.env)]
def IsD (H : Hp) (a : Addr) : Prop := (∃ kvs, Rd H a (.dK kvs)) ∨ ∃ kvs, Rd H a (.dT kvs)
theorem isD_at {X : Cx} {pins : List (Addr × Obj)} {σ : St} {H : Hp} {s : Shared} {a : Addr} (I : Inv X pins σ H s) (d : IsD H a) :
    s.TypeIs (.ref a) "dict" ∧ (∀ b, Value.ref a = .ref b → ∃ ob, s.heap.get? b = some ob ∧ ob.dict = none) ∧ (a == sysModules) = false := by
  rcases d with ⟨kvs, e⟩ | ⟨kvs, e⟩
  · obtain ⟨_, hd, vs, _, dd⟩ := dk_rd I.hok e
    refine ⟨dd.typeIs, fun b q => ?_, hd⟩
    cases q
    obtain ⟨ob, _, _, h1, h2, _⟩ := dd
    exact ⟨ob, h1, h2.2.1⟩
  · obtain ⟨_, hd, xs, _, dd⟩ := dt_rd I.hok e
    refine ⟨dd.typeIs, fun b q => ?_, hd⟩
    cases q
    obtain ⟨ob, _, _, h1, h2, _⟩ := dd
    exact ⟨ob, h1, h2.2.1⟩
section
variable {X : Cx} {pins : List (Addr × Obj)} {σ : St} {H : Hp} {s : Shared} {a : Addr} {y d : V} {u r : Value} {o : Option V} {A : Around} {E : Value → Shared → Prop}
theorem d_get2 {Q : Value → Shared → Prop} (hu : A.units + 1 < cLine) (I : Inv X pins σ H s) (g : DGet H a y o) (ry : RelV y u) (rd : RelV d r) (h : ∀ w' s', Inv X pins σ H s' → RelV (o.getD d) w' → Q w' s') :
    wpAny (model X.prog X.w) A (call (.builtin "dict.get") [.ref a, u, r]) Q E s := by
  rcases g with ⟨kvs, k, e, ey, l⟩ | ⟨kvs, k, b, e, ey, eb, l⟩
  · subst ey
    obtain ⟨z, hd, vs, rel, dd⟩ := dk_rd I.hok e
    refine call_meetsIn PySem.F.slot_dict_get dd.typeIs PySem.F.entry_dict_get (PySem.F.args_dict_get_3 _ _ _) (meets_dict_get_default (mixKind X.prog X.w) a (kV_is ry) hd r) ⟨_, dd.mapOf, h _ _ (I.tok _) ?_⟩
    rw [l]
    exact (rel.val k).getD rd
  · subst ey
    cases (show u = Value.ref b from ry)
    obtain ⟨z, hd, xs, rel, dd⟩ := dt_rd I.hok e
    refine call_meetsIn PySem.F.slot_dict_get dd.typeIs PySem.F.entry_dict_get (PySem.F.args_dict_get_3 _ _ _) (meetsH_dict_get_default (tupleKind (mixKind X.prog X.w)) a b hd r) ⟨tupleKind_room_in1 hu, k, xs, key_of I.hok eb, dd, h _ _ (I.tok _) ?_⟩
    rw [l]
    exact (rel.val k).getD rd
end
def tDGet1 (td ty : TE) : TE := fun σ H Q => td σ H fun x H1 => ∃ a, x = .ref a ∧ IsD H1 a ∧ ty σ H1 fun y H2 => ∃ o, DGet H2 a y o ∧ Q (o.getD .non) H2
def tDGet2 (td ty tx : TE) : TE := fun σ H Q => td σ H fun x H1 => ∃ a, x = .ref a ∧ IsD H1 a ∧ ty σ H1 fun y H2 => tx σ H2 fun z H3 => ∃ o, DGet H3 a y o ∧ Q (o.getD z) H3
def tDPop1 (td ty : TE) : TE := fun σ H Q => td σ H fun x H1 => ∃ a, x = .ref a ∧ IsD H1 a ∧ ty σ H1 fun y H2 => ∃ kvs k v, H2 a = some (.dK kvs) ∧ y = kV k ∧ valV kvs k = some v ∧ Q v (upd H2 a (.dK (dropK kvs k)))
def tDPop2 (td ty tx : TE) : TE := fun σ H Q => td σ H fun x H1 => ∃ a, x = .ref a ∧ IsD H1 a ∧ ty σ H1 fun y H2 => tx σ H2 fun z H3 => ∃ kvs k, H3 a = some (.dK kvs) ∧ y = kV k ∧
  (∀ v, valV kvs k = some v → Q v (upd H3 a (.dK (dropK kvs k)))) ∧ (valV kvs k = none → Q z H3)
section
variable {X : Cx} {o e f : Expr} {apos cpos : Pos} {td ty tx : TE}
theorem pe_dget2 (hu : X.A.units + 1 < cLine) (ho : PE X o td) (he : PE X e ty) (hf : PE X f tx) (m : M2 X o "get" apos e f cpos) : PE X (.Call (.Attribute o "get" apos) [e, f] [] cpos) (tDGet2 td ty tx) := by
  intro pins s σ H Q I h
  refine wpAny_Call_method m.base m.few m.line PySem.F.plainAttrs_dict PySem.F.slot_dict_get PySem.F.type_dict_get (thn (ho pins s σ H _ I h) fun u s1 ⟨x, H1, I1, rx, a, ex, d, q1⟩ => ?_)
  subst ex
  obtain rfl : u = Value.ref a := rx
  obtain ⟨t1, t2, _⟩ := isD_at I1 d
  refine ⟨t1, t2, ?_⟩
  rw [m.trees]
  refine Calls.callWith_builtin rfl (Calls.evalArgs_plain (Calls.spliced_cons (thn (he pins s1 σ H1 _ I1 q1) fun iv s2 ⟨y, H2, I2, ry, q2⟩ =>
    Calls.spliced_cons (thn (hf pins s2 σ H2 _ I2 q2) fun fv s3 ⟨z, H3, I3, rz, ov, g, q3⟩ => Calls.spliced_nil ?_))))
  exact d_get2 hu I3 g ry rz fun w' s4 I4 rw' => ⟨_, H3, I4, rw', q3⟩
end
section
variable {X : Cx} {pins : List (Addr × Obj)} {σ : St} {H : Hp} {s : Shared} {a : Addr} {kvs : List (Key × V)} {A : Around} {E : Value → Shared → Prop}
end
section
variable {X : Cx} {pins : List (Addr × Obj)} {σ : St} {H : Hp} {s : Shared} {a : Addr} {y : V} {u : Value} {A : Around} {E : Value → Shared → Prop}
end
end L2
namespace Att
open PySem PySem.W PySem.Calls PyProof.Rows
theorem ints_of_wellAll {P : Params} {h : Heap} : ∀ (ns : List Int) (vs : List Value), WellAll P h vs (ns.map WData.int) → IntsAre vs ns := by
  intro ns
  induction ns with
  | nil =>
    intro vs w
    rw [List.map_nil] at w
    cases w
    exact .nil
  | cons n ns ih =>
    intro vs w
    rw [List.map_cons] at w
    cases w with
    | cons a b =>
      cases a
      exact .cons _ _ (ih _ b)
theorem script_of {l : OpenLaw} {n : Nat} (hn : l.most = some n) {P : Params} {h : Heap} {args : List WData} {vals : List Value}
    (hpre : l.row.toRowW.claim.pre args = true) (hwl : WellAll P h vals args) :
    ∃ a vs ns, vals = [Value.ref a] ∧ args = [WData.list (ns.map WData.int)] ∧ h.get? a = some { cls := .type "list", data := .seq vs.toArray } ∧ IntsAre vs ns ∧ ns.length ≤ n := by
  have hsh : WShape.hasAll [] args [.list .int] = true := (pre_splitW hpre).1
  have hc : l.pre.holds [] { args := args } = true := (pre_splitW hpre).2
  obtain ⟨d, r, rfl, h1, h2⟩ := hasAllW_cons hsh
  obtain rfl := hasAllW_nil h2
  obtain ⟨xs, rfl, h3⟩ := hasW_list h1
  obtain ⟨ns, rfl⟩ := items_int h3
  have hlen : ns.length ≤ n := by
    unfold OpenLaw.pre at hc
    have h4 : (WTm.not (.lt (.lit (.int (n : Int))) (.len (.arg 0)))).holds [] { args := [.list (ns.map .int)] } = true := by
      have h4 := (holds_andW hc).1
      rw [hn] at h4
      exact h4
    have h5 := condW_of h4 (w_not (w_lt w_lit (w_len_list (w_arg rfl))))
    rw [List.length_map] at h5
    refine Nat.le_of_not_lt fun q => ?_
    have q' : (n : Int) < ((ns.length : Nat) : Int) := by omega
    first
      | (rw [decide_eq_true q'] at h5; exact absurd h5 (by decide))
      | (simp at h5; omega)
  cases hwl with
  | cons w1 w2 =>
    cases w2
    cases w1 with
    | list ho hall => exact ⟨_, _, ns, rfl, rfl, ho, ints_of_wellAll ns _ hall, hlen⟩
theorem post_true (l : OpenLaw) (args : List WData) : l.row.toRowW.claim.post args (.bool true) args = true :=
  postW_of (r := l.row.toRowW) (X := (true == true))
    (show WShape.has [] (.bool true) .bool = true by first | rfl | decide | simp [WShape.has, WShape.arms, WShape.armsAll])
    (show (WTm.eq .res (.lit (.bool true))).value [] { args := args, res := some (.bool true), after := args } = some (.bool (true == true)) from w_eq_bool (w_res rfl) w_lit) rfl
theorem attach_call {l : OpenLaw} {n : Nat} {q : Program} {loose : List Str} {XP : (Str → Option Value) → Heap → Prop} {YP : World → Heap → Prop} {d : DefRec}
    (hn : l.most = some n) (hdf : d.params.defaults = [])
    (call : ∀ (w : World) (s₀ s₁ : Shared) (mg mb : Str → Option Value) (fa : Addr) (o : Obj) (pm cd doc : Value) (a : Addr) (vs : List Value) (ns : List Int),
      Ground q loose [] XP w s₀ mg mb s₁.heap → YP w s₁.heap →
      s₁.heap.get? fa = some o → o.data = .func (docDef d.name d.params d.body d.scope pm cd doc) → s₁.heap.CodeRec cd d.name → mg d.name = some (.ref fa) →
      s₁.heap.get? a = some { cls := .type "list", data := .seq vs.toArray } → IntsAre vs ns → ns.length ≤ n → s₁.gens = #[] →
      codeAny (model l.prog w) callerA (.call (.ref fa) ⟨[.ref a], []⟩) (fun r s' => r = .ok (.ret (.bool true)) ∧ OldK s₁.heap s'.heap ∧ s'.os = s₁.os ∧ AllBare s'.gens) s₁) :
    WalkO q loose XP YP l.row.toRowW d [] (fun f vs => PySem.call f vs) := by
  intro w s₀ s₁ mg mb G Y fa o pm cd doc dV kV ho hd hcd hD hmg hg args vals as hpre hlay hrd hwl hlo
  obtain rfl : dV = .none := Dflts.none hD hdf
  obtain rfl : kV = .none := Dflts.noKw hD
  obtain ⟨a, vs, ns, rfl, rfl, hobj, hints, hlen⟩ := script_of hn hpre hwl
  refine enter_call (codeAny_mono (call w s₀ s₁ mg mb fa o pm cd doc a vs ns G Y ho (fd_plain hd) hcd hmg hobj hints hlen hg) fun r s' hq => ?_)
  obtain ⟨rfl, h2, h3, h4⟩ := hq
  exact ⟨.inl ⟨.bool true, .bool true, [], rfl, fun _ => rfl, .bool true, post_true l _, fun _ => ⟨List.Pairwise.nil, fun _ hm => (nomatch hm)⟩⟩, h2, h3, h4⟩
section
variable {prog : Program} {w : World} {A : Around} {E : Value → Shared → Prop} {s : Shared} {K : Frag}
def noObjs (h : Heap) : Heap := { h with objs := #[] }
def ledger (h : Heap) (L d : Addr) : List (Addr × Obj) := (List.range h.objs.size).filterMap fun a => if a = L ∨ a = d then none else (h.get? a).map fun o => (a, o)
end
end Att
namespace L2
open PySem PySem.Spec PyProof.Rows
theorem vals_ints : ∀ {vs : List Value} {ns : List Int}, IntsAre vs ns → Vals (ns.map V.int) vs
  | _, _, .nil => .nil
  | _, _, .cons n t h => .cons ⟨t, rfl⟩ (vals_ints h)
def Only (H : Hp) : Prop := ∀ b, H b = none ∨ ∃ o xs, H b = some (.frz o (.lst xs))
theorem law_call {P : Program} {w : World} {K : PySem.W.Frag} {mg mb : Str → Option Value} {CX : CXT} {k : Nat} {fa a : Addr} {fd : FuncData} {x : Str} {sp : Sp} {s₁ : Shared} {vs : List Value} {ns : List Int}
    (KX : K.In s₁.heap) (hns : s₁.heap.Ns mainGlobals mg) (hb : s₁.heap.Ns builtinsNs mb) (hbb : ∀ x : Str, x ≠ "__name__" → mb x = bootBuiltins x) (hlim : s₁.heap.NoLimit) (hg : s₁.gens = #[])
    (ha : s₁.heap.get? a = some { cls := .type "list", data := .seq vs.toArray }) (hi : IntsAre vs ns) (hl : ns.length ≤ sizeLine) (hr : Room k callerA)
    (F : ∀ base : Heap, K.In base → base.Ns mainGlobals mg → FnOk P w K mg base CX k fa fd [x] sp) (hbind : ∀ (s : Shared) (u : Value), BindsTo s fd ⟨[u], []⟩ [(x, u)])
    (hsp : ∀ H : Hp, Only H → SqL K H a (ns.map V.int) → sp [.ref a] H (fun v _ => v = .bl true) fun _ _ _ => False)
    (hCX : ∀ H e s', CX [] H s₁ (fun _ _ _ => False) e s' → False) :
    codeAny (model P w) callerA (.call (.ref fa) ⟨[.ref a], []⟩) (fun r s' => r = .ok (.ret (.bool true)) ∧ OldK s₁.heap s'.heap ∧ s'.os = s₁.os ∧ AllBare s'.gens) s₁ := by
  have rv := vals_ints hi
  have lenV := hi.length
  have core : ∀ H : Hp, Only H → SqL K H a (ns.map V.int) → HOk P w H s₁.heap → (∀ b, H b ≠ none → b = a) → (H a ≠ none → K.lookup a = none) →
      codeAny (model P w) callerA (.call (.ref fa) ⟨[.ref a], []⟩) (fun r s' => r = .ok (.ret (.bool true)) ∧ OldK s₁.heap s'.heap ∧ s'.os = s₁.os ∧ AllBare s'.gens) s₁ := by
    intro H hO hS hok hA hK
    have base_of : ∀ {b : Addr} {o : Obj}, s₁.heap.get? b = some o → H b = none → (hidT s₁.heap H).get? b = some o := fun e n => hidT_get e n
    have noA : ∀ {b : Addr} {o : Obj} {es : Array DictEntry} {ep : Nat}, s₁.heap.get? b = some o → o.data = .dict es ep → H b = none := fun {b o es ep} e d => by
      cases q : H b with
      | none => rfl
      | some u =>
        have e' : b = a := hA b (by rw [q]; simp)
        subst e'
        rw [ha] at e; cases e
        have d' : Data.seq vs.toArray _ = Data.dict es ep := d
        cases d'
    have nsK : ∀ {b : Addr} {m : Str → Option Value}, s₁.heap.Ns b m → (hidT s₁.heap H).Ns b m := fun {b m} ⟨o, es, ep, e, d, r⟩ => ⟨o, es, ep, base_of e (noA e d), d, r⟩
    have hKb : K.In (hidT s₁.heap H) := fun b o e => base_of (KX b o e) (by
      cases q : H b with
      | none => rfl
      | some u =>
        have e' : b = a := hA b (by rw [q]; simp)
        subst e'
        rw [hK (by rw [q]; simp)] at e; cases e)
    have hM : Mod K mg (hidT s₁.heap H) := ⟨hKb, nsK hns, ⟨mb, nsK hb, hbb⟩, let ⟨mc, h1, h2⟩ := hlim; ⟨mc, nsK h1, h2⟩⟩
    have e0 : Env0 P w K mg (hidT s₁.heap H) callerA [] s₁ H := ⟨rfl, hM, fun b o e => of_hidT e, Nat.le_of_eq (hidT_size _ _), trivial, fun b hb => absurd (show b ∈ ([] : List Addr) from hb) (by simp), hok, .of_eq hg⟩
    refine codeAny_mono ((F _ hKb (nsK hns)).run callerA [] s₁ H ⟨[.ref a], []⟩ [.ref a] [.ref a] _ _ hr e0 (hbind s₁ (.ref a)) (.cons rfl .nil) (hsp H hO hS)) fun r s' h => ?_
    cases r with
    | error e => exact (hCX H e s' h).elim
    | ok fl =>
      cases fl with
      | next => exact False.elim h
      | brk => exact False.elim h
      | cont => exact False.elim h
      | ret u =>
        obtain ⟨v, H', os, bare, un, hok', r', q⟩ := h
        have q' : v = .bl true := q
        subst q'
        obtain rfl : u = Value.bool true := r'
        refine ⟨rfl, OldK.of_keep fun b o e => ?_, os, bare⟩
        cases q : H b with
        | none => exact un.keep b o e q (by intro z; exact absurd (show b ∈ ([] : List Addr) from z) (by simp)) (by simp)
        | some u =>
          rcases hO b with z | ⟨ob, xs, z⟩
          · rw [q] at z; cases z
          · have z2 := un.frzs b ob _ z
            obtain ⟨e1, _⟩ := hok b _ z
            obtain ⟨e2, _⟩ := hok' b _ z2
            rw [e] at e1; cases e1
            exact e2
  cases hk : K.lookup a with
  | some o =>
    have e := KX a o hk
    rw [ha] at e
    cases e
    refine core (fun _ => none) (fun _ => .inl rfl) (.inr ⟨_, vs.toArray, _, hk, rfl, rfl, rfl, by rw [List.size_toArray, lenV]; exact hl, by simpa using rv⟩) (fun b u z => by have z' : (none : Option HO) = some u := z; cases z') (fun b z => absurd rfl z) fun z => absurd rfl z
  | none =>
    refine core (fun b => if b = a then some (.frz { cls := .type "list", data := .seq vs.toArray } (.lst (ns.map V.int))) else none) (fun b => ?_) (.inl (.inr ⟨{ cls := .type "list", data := .seq vs.toArray }, if_pos rfl⟩)) (fun b u z => ?_) (fun b z => ?_) fun _ => hk
    · by_cases hb : b = a
      · exact .inr ⟨_, _, if_pos hb⟩
      · exact .inl (if_neg hb)
    · by_cases hb : b = a
      · have z' := (if_pos hb).symm.trans z
        cases z'
        subst hb
        exact ⟨ha, by rw [List.length_map]; exact hl, vs, _, rv, ha⟩
      · have z' := (if_neg hb).symm.trans z
        cases z'
    · by_cases hb : b = a
      · exact hb
      · exact absurd (if_neg hb) z
end L2
namespace L2
open PySem PySem.Spec PyProof.Rows
abbrev KOf {K : PySem.W.Frag} {h : Heap} (_ : K.In h) : PySem.W.Frag := K
theorem walk_of {l : PySem.W.OpenLaw} {n k : Nat} {q : Program} {loose : List Str} {XP : (Str → Option Value) → Heap → Prop} {YP : World → Heap → Prop} {d : DefRec} {K : Params → PySem.W.Frag} {CX : World → CXT} {sp : World → Sp} {x : Str}
    (hn : l.most = some n) (hn2 : n ≤ sizeLine) (hdf : d.params.defaults = []) (hr : Room k callerA)
    (hY : ∀ (w : World) (h : Heap), YP w h → (K w.params).In h)
    (F : ∀ (w : World) (mg : Str → Option Value) (fa : Addr) (h : Heap), (K w.params).In h → h.Ns mainGlobals mg → mg d.name = some (.ref fa) →
      ∃ fd : FuncData, (∀ (s : Shared) (u : Value), BindsTo s fd ⟨[u], []⟩ [(x, u)]) ∧
        ∀ base : Heap, (K w.params).In base → base.Ns mainGlobals mg → FnOk l.prog w (K w.params) mg base (CX w) k fa fd [x] (sp w))
    (hsp : ∀ (w : World) (H : Hp) (a : Addr) (ns : List Int), ns.length ≤ n → Only H → SqL (K w.params) H a (ns.map V.int) → sp w [.ref a] H (fun v _ => v = .bl true) fun _ _ _ => False)
    (hCX : ∀ (w : World) (H : Hp) (s : Shared) (e : Value) (s' : Shared), CX w [] H s (fun _ _ _ => False) e s' → False) :
    PySem.W.WalkO q loose XP YP l.row.toRowW d [] (fun f vs => PySem.call f vs) := by
  refine Att.attach_call hn hdf fun w s₀ s₁ mg mb fa o pm cd doc a vs ns G Y ho hd hcd hmg hobj hints hlen hg => ?_
  have KX := hY w _ Y
  obtain ⟨fd, hb, hF⟩ := F w mg fa _ KX G.T.g hmg
  exact law_call KX G.T.g G.T.b G.T.builtins G.T.nolimit hg hobj hints (Nat.le_trans hlen hn2) hr hF hb (fun H hO hS => hsp w H a ns hlen hO hS) fun H e s' => hCX w H s₁ e s'
end L2
namespace L2
open PySem PySem.Spec PyProof.Rows
def inClass (s : Stmt) (j : Nat) : Stmt := match s with
  | .ClassDef _ _ _ body _ _ _ _ _ _ _ => body.getD j (.Pass ⟨0, 0, 0, 0⟩)
  | _ => .Pass ⟨0, 0, 0, 0⟩
def defArgs (s : Stmt) : Arguments := match s with
  | .FunctionDef _ a _ _ _ _ _ _ _ _ => a
  | _ => { posonlyargs := [], args := [], vararg := none, kwonlyargs := [], kw_defaults := [], kwarg := none, defaults := [] }
def defBody (s : Stmt) : List Stmt := match s with
  | .FunctionDef _ _ b _ _ _ _ _ _ _ => b
  | _ => []
def defScope (s : Stmt) : Scope := match s with
  | .FunctionDef _ _ _ _ _ _ sc _ _ _ => sc
  | _ => { kind := .function, names := [], isGenerator := false, isCoroutine := false }
abbrev CX0 : CXT := fun _ _ _ _ _ _ => False
abbrev E0 : XK := fun _ _ _ => False
theorem pass0 {X : Cx} : Passes CX0 X E0 := fun _ _ _ _ _ _ _ h => h.elim
structure Fun (K : PySem.W.Frag) (x qual : Str) (st : Stmt) (f : Addr) (fd : FuncData) : Prop where
  ex : ∃ (oc : Value) (od : Option Addr) (kV doc pm : Value) (an : Option Addr) (cdv ct : Value) (osl : Array (Option Value)),
    fd = PySem.W.fnOf x qual (defArgs st) (defBody st) (defScope st) .none kV doc pm an cdv ct ∧ K.lookup f = some ⟨oc, od, .func fd, osl⟩ ∧ PySem.W.codeIn K cdv qual = true
  kp : PySem.W.keepIn K (.ref f) = true
section
variable {P : Program} {w : World} {K : PySem.W.Frag} {mg : Str → Option Value} {base : Heap}
theorem Fun.ok {x qual : Str} {st : Stmt} {f : Addr} {fd : FuncData} {N ps : List Str} {k : Nat} {sp : Sp} (F : Fun K x qual st f fd) (S : FnScope N ps (defScope st)) (len : ∀ vs H Q E, sp vs H Q E → vs.length = ps.length)
    (hbody : ∀ (cdv : Value) (A : Around) (outer : List Env) (s : Shared) (H : Hp) (vs : List V) (Q : VK) (E : XK), Room k (A.deeper (envOfC qual (defScope st) s.heap.objs.size f cdv)) → sp vs H Q E →
      ∃ t, PSs (cxOf CX0 P w K mg base N qual (defScope st) f cdv A outer s H E).nox (defBody st) t ∧ t { nx := fun _ H' => Q .non H', rt := Q } (start N vs) H) : FnOk P w K mg base CX0 (k + 1) f fd ps sp := by
  obtain ⟨oc, od, kV, doc, pm, an, cdv, ct, osl, rfl, lk, hcd⟩ := F.ex
  refine fn_of lk hcd S len fun A outer s H vs Q E hr hsp => ?_
  obtain ⟨t, h, q⟩ := hbody cdv A outer s H vs Q E hr hsp
  exact ⟨t, h.nox, q⟩
theorem Fun.binds {x qual : Str} {st : Stmt} {f : Addr} {fd : FuncData} {ps : List Str} (F : Fun K x qual st f fd)
    (h : ∀ (kV doc pm : Value) (an : Option Addr) (cdv ct : Value) (us : List Value), us.length = ps.length → bindArgs (PySem.W.fnOf x qual (defArgs st) (defBody st) (defScope st) .none kV doc pm an cdv ct) ⟨us, []⟩ = pure (ps.zip us)) : Binds K fd ps [] := by
  obtain ⟨oc, od, kV, doc, pm, an, cdv, ct, osl, rfl, lk, hcd⟩ := F.ex
  exact .all (h kV doc pm an cdv ct)
theorem fun_mk {x qual : Str} {st : Stmt} {f : Addr} {oc : Value} {od an : Option Addr} {osl : Array (Option Value)} {kV doc pm cdv ct : Value} (l : K.lookup f = some ⟨oc, od, .func (PySem.W.fnOf x qual (defArgs st) (defBody st) (defScope st) .none kV doc pm an cdv ct), osl⟩)
    (c : PySem.W.codeIn K cdv qual = true) (k : PySem.W.keepIn K (.ref f) = true) : Fun K x qual st f (PySem.W.fnOf x qual (defArgs st) (defBody st) (defScope st) .none kV doc pm an cdv ct) := ⟨⟨oc, od, kV, doc, pm, an, cdv, ct, osl, rfl, l, c⟩, k⟩
end
theorem hu_of {A : Around} {k : Nat} (hr : Room k A) : A.units + 1 < cLine := Nat.lt_of_le_of_lt (Nat.add_le_add_left (by decide : 1 ≤ 64) _) hr.units
section
variable {X : Cx}
theorem pv (i : Nat) {x : Str} {pos : Pos} (hN : X.N[i]? = some x := by rfl) (hv : Vis X.env.scope x := by first | exact Or.inl rfl | exact Or.inr (Or.inl rfl) | exact Or.inr (Or.inr rfl)) (hd : (x == ("__debug__" : Str)) = false := by decide)
    (hcd : (x == ("__classdict__" : Str)) = false := by decide) : PE X (.Name x pos) (tVar i) := pe_var hN hv hd hcd
end
theorem iteF {A B : Prop} (h : B) : if false = true then A else B := by
  rw [if_neg Bool.false_ne_true]
  exact h
theorem iteT {A B : Prop} (h : A) : if true = true then A else B := by
  rw [if_pos rfl]
  exact h
theorem iteNS {c A B : Prop} [Decidable c] (hc : c) (h : B) : if (!decide c) = true then A else B := by
  rw [decide_eq_true hc]
  exact iteF h
def Same (H H' : Hp) : Prop := ∀ b o, H b = some o → H' b = some o
theorem Same.refl (H : Hp) : Same H H := fun _ _ h => h
theorem Same.trans {H H1 H2 : Hp} (a : Same H H1) (b : Same H1 H2) : Same H H2 := fun c o h => b c o (a c o h)
theorem Same.free {H H' : Hp} (e : Same H H') {l : Addr} (h : H' l = Option.none) : H l = Option.none := by
  cases q : H l with
  | none => rfl
  | some o =>
    rw [e l o q] at h
    cases h
theorem Same.seq {K : PySem.W.Frag} {H H' : Hp} {a : Addr} {xs : List V} (e : Same H H') (h : SqL K H a xs) : SqL K H' a xs := by
  rcases h with (h | ⟨o, h⟩) | h
  · exact .inl (.inl (e _ _ h))
  · exact .inl (.inr ⟨o, e _ _ h⟩)
  · exact .inr h
section
variable {κ : Type} [DecidableEq κ]
end
end L2
end
section
set_option linter.all false
namespace L2
open PySem
section
variable {env : Env}
theorem clos_go : ∀ (l : List (Str × NameKind)) (cs : List (Str × Addr)), (∀ x ∈ l, x.2 = .free → ∃ c, env.cells.lookup x.1 = some c) → (∀ x c, cs.lookup x = some c → env.cells.lookup x = some c) →
    ∃ cl, (forIn l cs (fun x r => if (x.2 == NameKind.free) = true then do let a ← cellOf env x.1; pure (ForInStep.yield ((x.1, a) :: r)) else pure (ForInStep.yield r)) : Sem (List (Str × Addr))) = pure cl ∧
      (∀ x c, cl.lookup x = some c → env.cells.lookup x = some c) ∧ ∀ x, ((x, NameKind.free) ∈ l ∨ ∃ c, cs.lookup x = some c) → ∃ c, cl.lookup x = some c
  | [], cs, _, hs => ⟨cs, rfl, hs, fun x h => h.elim (fun z => by cases z) id⟩
  | (n, k) :: l, cs, h, hs => by
    have hl : ∀ x ∈ l, x.2 = .free → ∃ c, env.cells.lookup x.1 = some c := fun x hx => h x (List.mem_cons_of_mem _ hx)
    rw [List.forIn_cons]
    by_cases hk : k = .free
    · subst hk
      obtain ⟨c, hc⟩ := h (n, .free) (List.mem_cons_self ..) rfl
      obtain ⟨cl, e, h1, h2⟩ := clos_go l ((n, c) :: cs) hl fun x c' z => by
        by_cases hx : x = n
        · subst hx
          rw [List.lookup_cons_self] at z
          cases z; exact hc
        · have hx' : (x == n) = false := by simpa using hx
          rw [List.lookup_cons, hx'] at z
          exact hs x c' z
      refine ⟨cl, ?_, h1, fun x hx => h2 x ?_⟩
      · have e0 : cellOf env n = pure c := by unfold cellOf; rw [hc]
        simp only [beq_self_eq_true, if_true, e0, pure_bind]
        exact e
      · rcases hx with hx | ⟨c', hx⟩
        · rcases List.mem_cons.mp hx with hx | hx
          · have : x = n := (Prod.mk.inj hx).1
            subst this
            exact .inr ⟨c, List.lookup_cons_self⟩
          · exact .inl hx
        · by_cases hxn : x = n
          · subst hxn; exact .inr ⟨c, List.lookup_cons_self⟩
          · have hx' : (x == n) = false := by simpa using hxn
            exact .inr ⟨c', by rw [List.lookup_cons, hx']; exact hx⟩
    · obtain ⟨cl, e, h1, h2⟩ := clos_go l cs hl hs
      have hb : (k == NameKind.free) = false := by simpa using hk
      refine ⟨cl, ?_, h1, fun x hx => h2 x ?_⟩
      · simp only [hb, Bool.false_eq_true, if_false, pure_bind]
        exact e
      · rcases hx with hx | hx
        · rcases List.mem_cons.mp hx with hx | hx
          · exact absurd (Prod.mk.inj hx).2.symm hk
          · exact .inl hx
        · exact .inr hx
theorem closure_of {scope : Scope} (h : ∀ x ∈ scope.names, x.2 = .free → ∃ c, env.cells.lookup x.1 = some c) :
    ∃ cl, closureFor scope env = pure cl ∧ (∀ x c, cl.lookup x = some c → env.cells.lookup x = some c) ∧ ∀ x, (x, NameKind.free) ∈ scope.names → ∃ c, cl.lookup x = some c := by
  obtain ⟨cl, e, h1, h2⟩ := clos_go scope.names [] h (fun x c z => by simp at z)
  refine ⟨cl, ?_, h1, fun x hx => h2 x (.inl hx)⟩
  unfold closureFor
  dsimp only
  refine Eq.trans (congrArg (· >>= pure) ?_) (Eq.trans (congrArg (· >>= pure) e) (by simp))
  rfl
end
section
variable {prog : Program} {w : World} {A : Around} {R : Result → Shared → Prop} {s : Shared}
theorem loop_comp {elt target iter : Expr} {ifs : List Expr} {scope : Scope} {pos : Pos} {it acc : Value} {env : Env} (J : Nat → Shared → Prop)
    (turn : ∀ n s, J n s → wpAny (model prog w) A (pyNext it) (fun r s1 => match r with
      | none => R (.ok .next) s1
      | some v => wpAny (model prog w) A (letOwnedTupleGo target it v) (fun _ s2 => wpAny (model prog w) A (assign target env v) (fun _ s3 =>
          wpAny (model prog w) A (forIn ifs true fun c r => if r = true then do let ok ← isTrue c env (eval c env); pure (ForInStep.yield ok) else pure (ForInStep.yield r)) (fun ok s4 =>
            if ok = true then wpAny (model prog w) A (eval elt env) (fun x s5 => wpAny (model prog w) A (call (.builtin "list.append") [acc, x]) (fun _ s6 => ∃ m, m < n ∧ J m s6) (fun _ _ => False) s5) (fun _ _ => False) s4
            else ∃ m, m < n ∧ J m s4) (fun _ _ => False) s3) (fun _ _ => False) s2) (fun _ _ => False) s1) (fun _ _ => False) s)
    (n : Nat) (h : J n s) : codeAny (model prog w) A (.compLoop (.ListComp elt [⟨target, iter, ifs, 0⟩] scope pos) 0 it acc env) R s := by
  refine codeAny_loop rfl J (fun n s hJ => ?_) n h
  show wpAny _ A ((compTurn (.ListComp elt [⟨target, iter, ifs, 0⟩] scope pos) 0 it acc env).onRaise (fun x => noteFrame x env >>= fun _ => theTreesLotGoes x)) _ _ s
  refine wpAny_noted ?_
  have no : ∀ {α : Type} {t : Sem α} {Q : α → Shared → Prop} {E : Value → Shared → Prop} {s : Shared}, wpAny (model prog w) A t Q (fun _ _ => False) s → wpAny (model prog w) A t Q E s := fun h => wpAny_mono h (fun _ _ q => q) fun _ _ f => f.elim
  rw [compTurn_list]
  refine wpAny_bind (wpAny_standAt (wpAny_bind (no (wpAny_mono (turn n s hJ) (fun r s1 h1 => ?_) fun _ _ f => f))))
  cases r with
  | none => exact wpAny_pure h1
  | some v =>
    refine wpAny_bind (no (wpAny_mono h1 (fun _ s2 h2 => ?_) fun _ _ f => f))
    refine wpAny_bind (no (wpAny_mono h2 (fun _ s3 h3 => ?_) fun _ _ f => f))
    refine wpAny_bind (no (wpAny_mono h3 (fun ok s4 h4 => ?_) fun _ _ f => f))
    cases ok with
    | false => exact wpAny_pure ⟨rfl, h4⟩
    | true =>
      refine wpAny_bind (wpAny_bind (no (wpAny_mono h4 (fun x s5 h5 => ?_) fun _ _ f => f)))
      exact wpAny_bind (no (wpAny_mono h5 (fun _ s6 h6 => wpAny_pure (wpAny_pure ⟨rfl, h6⟩)) fun _ _ f => f))
end
end L2
end
section
open PySem PySem.W PyProof.Rows
namespace MyS
def ev {α : Type} (lt : Nat → Nat → Bool) : KasT α → α
  | .ret a => a
  | .ask i j k => ev lt (k (lt i j))
theorem ev_bind {α β : Type} (lt : Nat → Nat → Bool) (f : α → KasT β) : ∀ t : KasT α, ev lt (t.bind f) = ev lt (f (ev lt t))
  | .ret _ => rfl
  | .ask i j k => ev_bind lt f (k (lt i j))
def okT {α : Type} (lt : Nat → Nat → Bool) (N : Nat) : KasT α → Prop
  | .ret _ => True
  | .ask i j k => i < N ∧ j < N ∧ i ≠ j ∧ okT lt N (k (lt i j))
theorem okT_bind {α β : Type} {lt : Nat → Nat → Bool} {N : Nat} {f : α → KasT β} : ∀ (t : KasT α), okT lt N t → okT lt N (f (ev lt t)) → okT lt N (t.bind f)
  | .ret _, _, h => h
  | .ask i j k, h, h' => ⟨h.1, h.2.1, h.2.2.1, okT_bind (k (lt i j)) h.2.2.2 h'⟩
structure TotalOn (lt : Nat → Nat → Bool) (n : Nat) : Prop where
  irr : ∀ i, i < n → lt i i = false
  tr : ∀ i j k, i < n → j < n → k < n → lt i j = true → lt j k = true → lt i k = true
  tot : ∀ i j, i < n → j < n → i ≠ j → lt i j = true ∨ lt j i = true
abbrev gg (p : Array Nat) (i : Nat) : Nat := p.getD i 0
def Pm (p : Array Nat) (n : Nat) : Prop := p.toList.Perm (List.range n)
theorem Pm.size {p : Array Nat} {n : Nat} (h : Pm p n) : p.size = n := by
  have := List.Perm.length_eq h
  simpa using this
theorem gg_eq {p : Array Nat} {i : Nat} (h : i < p.size) : gg p i = p[i] := by simp [gg, Array.getD, h]
theorem Pm.lt {p : Array Nat} {n i : Nat} (h : Pm p n) (hi : i < n) : gg p i < n := by
  have hs : i < p.size := by rw [h.size]; exact hi
  have hm : p[i] ∈ List.range n := (List.Perm.mem_iff h).mp (by simp)
  rw [gg_eq hs]
  exact List.mem_range.mp hm
theorem Pm.ne {p : Array Nat} {n i j : Nat} (h : Pm p n) (hi : i < n) (hj : j < n) (hij : i ≠ j) : gg p i ≠ gg p j := by
  have hsi : i < p.size := by rw [h.size]; exact hi
  have hsj : j < p.size := by rw [h.size]; exact hj
  have nd : p.toList.Nodup := (List.Perm.nodup_iff h).mpr List.nodup_range
  rw [gg_eq hsi, gg_eq hsj]
  intro e
  apply hij
  have e' : p.toList[i]'(by simpa using hsi) = p.toList[j]'(by simpa using hsj) := by simpa using e
  exact (List.getElem_inj nd).mp e'
theorem Pm.perm {p q : Array Nat} {n : Nat} (h : Pm p n) (e : q.Perm p) : Pm q n := (Array.perm_iff_toList_perm.mp e).trans h
def Up (lt : Nat → Nat → Bool) (p : Array Nat) (k : Nat) : Prop := ∀ i j, i < j → j < k → lt (gg p i) (gg p j) = true
def Dn (lt : Nat → Nat → Bool) (p : Array Nat) (k : Nat) : Prop := ∀ i j, i < j → j < k → lt (gg p j) (gg p i) = true
section
variable {lt : Nat → Nat → Bool} {N : Nat} {p : Array Nat}
theorem TotalOn.flip (O : TotalOn lt N) {i j : Nat} (hi : i < N) (hj : j < N) (hne : i ≠ j) (h : lt i j = false) : lt j i = true := by
  rcases O.tot i j hi hj hne with h' | h'
  · rw [h] at h'; cases h'
  · exact h'
theorem Up.more (O : TotalOn lt N) (P : Pm p N) {n : Nat} (h1 : 1 ≤ n) (hn : n < N) (u : Up lt p n) (h : lt (gg p (n - 1)) (gg p n) = true) : Up lt p (n + 1) := by
  intro i j hij hj
  by_cases e : j = n
  · subst e
    by_cases e' : i = j - 1
    · subst e'; exact h
    · exact O.tr _ _ _ (P.lt (by omega)) (P.lt (by omega)) (P.lt hn) (u i (j - 1) (by omega) (by omega)) h
  · exact u i j hij (by omega)
theorem Dn.more (O : TotalOn lt N) (P : Pm p N) {n : Nat} (h1 : 1 ≤ n) (hn : n < N) (u : Dn lt p n) (h : lt (gg p n) (gg p (n - 1)) = true) : Dn lt p (n + 1) := by
  intro i j hij hj
  by_cases e : j = n
  · subst e
    by_cases e' : i = j - 1
    · subst e'; exact h
    · exact O.tr _ _ _ (P.lt hn) (P.lt (by omega)) (P.lt (by omega)) h (u i (j - 1) (by omega) (by omega))
  · exact u i j hij (by omega)
theorem up_one : Up lt p 1 := fun i j hij hj => by omega
theorem asc_ok (O : TotalOn lt N) (P : Pm p N) : ∀ (f n : Nat), 1 ≤ n → n + f ≤ N → Up lt p n →
    n ≤ ev lt (kas_asc p f n) ∧ ev lt (kas_asc p f n) ≤ n + f ∧ Up lt p (ev lt (kas_asc p f n)) ∧ (ev lt (kas_asc p f n) < n + f → lt (gg p (ev lt (kas_asc p f n))) (gg p (ev lt (kas_asc p f n) - 1)) = true)
  | 0, n, _, _, u => ⟨Nat.le_refl _, Nat.le_refl _, u, fun h => absurd h (Nat.lt_irrefl _)⟩
  | f + 1, n, h1, hn, u => by
    have e : ev lt (kas_asc p (f + 1) n) = ev lt (if lt (gg p n) (gg p (n - 1)) = true then KasT.ret n else kas_asc p f (n + 1)) := rfl
    rw [e]
    cases c : lt (gg p n) (gg p (n - 1)) with
    | true =>
      rw [if_pos rfl]
      exact ⟨Nat.le_refl _, Nat.le_add_right _ _, u, fun _ => c⟩
    | false =>
      rw [if_neg (by simp)]
      have c' := O.flip (P.lt (by omega)) (P.lt (by omega)) (P.ne (by omega) (by omega) (by omega)) c
      obtain ⟨a1, a2, a3, a4⟩ := asc_ok O P f (n + 1) (by omega) (by omega) (u.more O P h1 (by omega) c')
      exact ⟨by omega, by omega, a3, fun h => a4 (by omega)⟩
theorem asc_t (P : Pm p N) : ∀ (f n : Nat), 1 ≤ n → n + f ≤ N → okT lt N (kas_asc p f n)
  | 0, n, _, _ => trivial
  | f + 1, n, h1, hn => by
    refine ⟨P.lt (by omega), P.lt (by omega), P.ne (by omega) (by omega) (by omega), ?_⟩
    show okT lt N (if lt (gg p n) (gg p (n - 1)) = true then KasT.ret n else kas_asc p f (n + 1))
    split
    · trivial
    · exact asc_t P f (n + 1) (by omega) (by omega)
theorem desc_t (O : TotalOn lt N) (P : Pm p N) : ∀ (f n : Nat), 1 ≤ n → n + f ≤ N → okT lt N (kas_desc f p n 0)
  | 0, n, _, _ => trivial
  | f + 1, n, h1, hn => by
    refine ⟨P.lt (by omega), P.lt (by omega), P.ne (by omega) (by omega) (by omega), ?_⟩
    show okT lt N (if lt (gg p n) (gg p (n - 1)) = true then (if 0 > 0 then kas_desc f (kas_rev p (n - (0 + 1)) n) (n + 1) 0 else kas_desc f p (n + 1) 0)
      else .ask (gg p (n - 1)) (gg p n) fun d => if d = true then .ret (p, n, 0) else kas_desc f p (n + 1) (0 + 1))
    cases c : lt (gg p n) (gg p (n - 1)) with
    | true =>
      rw [if_pos rfl, if_neg (by omega)]
      exact desc_t O P f (n + 1) (by omega) (by omega)
    | false =>
      rw [if_neg (by simp)]
      have c' := O.flip (P.lt (by omega)) (P.lt (by omega)) (P.ne (by omega) (by omega) (by omega)) c
      refine ⟨P.lt (by omega), P.lt (by omega), P.ne (by omega) (by omega) (by omega), ?_⟩
      show okT lt N (if lt (gg p (n - 1)) (gg p n) = true then KasT.ret (p, n, 0) else kas_desc f p (n + 1) (0 + 1))
      rw [c', if_pos rfl]
      trivial
theorem desc_ok (O : TotalOn lt N) (P : Pm p N) : ∀ (f n : Nat), 1 ≤ n → n + f ≤ N → Dn lt p n →
    ∃ m, ev lt (kas_desc f p n 0) = (p, m, 0) ∧ n ≤ m ∧ m ≤ n + f ∧ Dn lt p m
  | 0, n, _, _, u => ⟨n, rfl, Nat.le_refl _, Nat.le_refl _, u⟩
  | f + 1, n, h1, hn, u => by
    have e : ev lt (kas_desc (f + 1) p n 0) = ev lt (if lt (gg p n) (gg p (n - 1)) = true then (if 0 > 0 then kas_desc f (kas_rev p (n - (0 + 1)) n) (n + 1) 0 else kas_desc f p (n + 1) 0)
      else .ask (gg p (n - 1)) (gg p n) fun d => if d = true then .ret (p, n, 0) else kas_desc f p (n + 1) (0 + 1)) := rfl
    rw [e]
    cases c : lt (gg p n) (gg p (n - 1)) with
    | true =>
      rw [if_pos rfl, if_neg (by omega)]
      obtain ⟨m, a1, a2, a3, a4⟩ := desc_ok O P f (n + 1) (by omega) (by omega) (u.more O P h1 (by omega) c)
      exact ⟨m, a1, by omega, by omega, a4⟩
    | false =>
      rw [if_neg (by simp)]
      have c' := O.flip (P.lt (by omega)) (P.lt (by omega)) (P.ne (by omega) (by omega) (by omega)) c
      have e2 : ev lt (.ask (gg p (n - 1)) (gg p n) fun d => if d = true then KasT.ret (p, n, 0) else kas_desc f p (n + 1) (0 + 1)) = ev lt (if lt (gg p (n - 1)) (gg p n) = true then KasT.ret (p, n, 0) else kas_desc f p (n + 1) (0 + 1)) := rfl
      rw [e2, c', if_pos rfl]
      exact ⟨n, rfl, Nat.le_refl _, by omega, u⟩
theorem gg_rev {m k : Nat} (hm : m ≤ p.size) : gg (kas_rev p 0 m) k = if k < m then gg p (m - 1 - k) else gg p k := by
  have e := getElem?_mirror_all (i := 0) hm k
  have e0 : ∀ (q : Array Nat) (x : Nat), gg q x = (q[x]?).getD 0 := fun q x => by simp [gg]
  rw [e0, e0, e0]
  show ((mirror p 0 m ((m - 0) / 2))[k]?).getD 0 = _
  rw [e]
  by_cases h : k < m
  · rw [if_pos ⟨Nat.zero_le _, h⟩, if_pos h]
    simp
  · rw [if_neg (fun z => h z.2), if_neg h]
theorem rev_up (P : Pm p N) {m : Nat} (hm : m ≤ N) (d : Dn lt p m) : Up lt (kas_rev p 0 m) m := by
  intro i j hij hj
  have hs : m ≤ p.size := by rw [P.size]; exact hm
  rw [gg_rev hs, gg_rev hs, if_pos (by omega), if_pos hj]
  exact d _ _ (by omega) (by omega)
theorem rev_pm (P : Pm p N) (i j : Nat) : Pm (kas_rev p i j) N := P.perm (mirror_perm p i j _)
theorem count_ok (O : TotalOn lt N) (P : Pm p N) (h2 : 2 ≤ N) : ∃ m q, ev lt (kas_count N p) = (m, q) ∧ 1 ≤ m ∧ m ≤ N ∧ Pm q N ∧ Up lt q m := by
  obtain ⟨a1, a2, a3, a4⟩ := asc_ok O P (N - 1) 1 (Nat.le_refl _) (by omega) up_one
  unfold kas_count
  rw [ev_bind]
  generalize hn : ev lt (kas_asc p (N - 1) 1) = n at a1 a2 a3 a4
  by_cases e1 : (n == N) = true
  · rw [if_pos e1]
    exact ⟨n, p, rfl, a1, by omega, P, a3⟩
  · rw [if_neg e1]
    have hne : n ≠ N := by simpa using e1
    by_cases e2 : n > 1
    · rw [if_pos e2]
      have c : lt (gg p 0) (gg p (n - 1)) = true := a3 0 (n - 1) (by omega) (by omega)
      have e3 : ev lt (KasT.ask (p.getD 0 0) (p.getD (n - 1) 0) fun c => if c = true then KasT.ret (n, p) else kas_descPart n N (kas_rev p 0 n)) = ev lt (if lt (gg p 0) (gg p (n - 1)) = true then KasT.ret (n, p) else kas_descPart n N (kas_rev p 0 n)) := rfl
      rw [e3, c, if_pos rfl]
      exact ⟨n, p, rfl, a1, by omega, P, a3⟩
    · rw [if_neg e2]
      have e : n = 1 := by omega
      subst e
      have c := a4 (by omega)
      have d2 : Dn lt p 2 := fun i j hij hj => by
        have : i = 0 := by omega
        have : j = 1 := by omega
        subst i; subst j; exact c
      obtain ⟨m, b1, b2, b3, b4⟩ := desc_ok O P (N - 2) 2 (by omega) (by omega) d2
      unfold kas_descPart
      rw [ev_bind]
      have b1' : ev lt (kas_desc (N - (1 + 1)) p (1 + 1) 0) = (p, m, 0) := b1
      rw [b1']
      dsimp only
      rw [if_neg (by omega)]
      unfold kas_tail3
      rw [ev_bind]
      obtain ⟨c1, c2, c3, _⟩ := asc_ok O (rev_pm P 0 m) (N - m) m (by omega) (by omega) (rev_up P (by omega) b4)
      exact ⟨_, _, rfl, by omega, by omega, rev_pm P 0 m, c3⟩
theorem count_t (O : TotalOn lt N) (P : Pm p N) (h2 : 2 ≤ N) : okT lt N (kas_count N p) := by
  obtain ⟨a1, a2, a3, a4⟩ := asc_ok O P (N - 1) 1 (Nat.le_refl _) (by omega) up_one
  unfold kas_count
  refine okT_bind _ (asc_t P _ _ (Nat.le_refl _) (by omega)) ?_
  generalize hn : ev lt (kas_asc p (N - 1) 1) = n at a1 a2 a3 a4
  by_cases e1 : (n == N) = true
  · rw [if_pos e1]; trivial
  · rw [if_neg e1]
    have hne : n ≠ N := by simpa using e1
    by_cases e2 : n > 1
    · rw [if_pos e2]
      have c : lt (gg p 0) (gg p (n - 1)) = true := a3 0 (n - 1) (by omega) (by omega)
      refine ⟨P.lt (by omega), P.lt (by omega), P.ne (by omega) (by omega) (by omega), ?_⟩
      show okT lt N (if lt (gg p 0) (gg p (n - 1)) = true then KasT.ret (n, p) else kas_descPart n N (kas_rev p 0 n))
      rw [c, if_pos rfl]
      trivial
    · rw [if_neg e2]
      have e : n = 1 := by omega
      subst e
      have c := a4 (by omega)
      have d2 : Dn lt p 2 := fun i j hij hj => by
        have : i = 0 := by omega
        have : j = 1 := by omega
        subst i; subst j; exact c
      obtain ⟨m, b1, b2, b3, b4⟩ := desc_ok O P (N - 2) 2 (by omega) (by omega) d2
      unfold kas_descPart
      refine okT_bind _ (desc_t O P _ _ (by omega) (by omega)) ?_
      have b1' : ev lt (kas_desc (N - (1 + 1)) p (1 + 1) 0) = (p, m, 0) := b1
      rw [b1']
      dsimp only
      rw [if_neg (by omega)]
      unfold kas_tail3
      exact okT_bind _ (asc_t (rev_pm P 0 m) _ _ (by omega) (by omega)) trivial
theorem place_t (P : Pm p N) {k : Nat} (hk : k < N) : ∀ (f l r : Nat), r ≤ k → okT lt N (kas_place p k f l r)
  | 0, l, r, _ => trivial
  | f + 1, l, r, h => by
    show okT lt N (if l ≥ r then KasT.ret l else .ask (p.getD k 0) (p.getD ((l + r) / 2) 0) fun c => if c = true then kas_place p k f l ((l + r) / 2) else kas_place p k f ((l + r) / 2 + 1) r)
    by_cases hlr : l ≥ r
    · rw [if_pos hlr]; trivial
    · rw [if_neg hlr]
      refine ⟨P.lt hk, P.lt (by omega), P.ne hk (by omega) (by omega), ?_⟩
      show okT lt N (if lt (gg p k) (gg p ((l + r) / 2)) = true then kas_place p k f l ((l + r) / 2) else kas_place p k f ((l + r) / 2 + 1) r)
      split
      · exact place_t P hk f l _ (by omega)
      · exact place_t P hk f _ r h
theorem place_ok (O : TotalOn lt N) (P : Pm p N) {k : Nat} (hk : k < N) (u : Up lt p k) : ∀ (f l r : Nat), l ≤ r → r ≤ k → r - l ≤ f → (∀ i, i < l → lt (gg p i) (gg p k) = true) → (∀ i, r ≤ i → i < k → lt (gg p k) (gg p i) = true) →
    ev lt (kas_place p k f l r) ≤ k ∧ (∀ i, i < ev lt (kas_place p k f l r) → lt (gg p i) (gg p k) = true) ∧ ∀ i, ev lt (kas_place p k f l r) ≤ i → i < k → lt (gg p k) (gg p i) = true
  | 0, l, r, h1, h2, h3, a, b => by
    have : l = r := by omega
    subst this
    exact ⟨h2, a, b⟩
  | f + 1, l, r, h1, h2, h3, a, b => by
    have e : ev lt (kas_place p k (f + 1) l r) = ev lt (if l ≥ r then KasT.ret l else .ask (p.getD k 0) (p.getD ((l + r) / 2) 0) fun c => if c = true then kas_place p k f l ((l + r) / 2) else kas_place p k f ((l + r) / 2 + 1) r) := rfl
    rw [e]
    by_cases hlr : l ≥ r
    · rw [if_pos hlr]
      have : l = r := by omega
      subst this
      exact ⟨h2, a, b⟩
    · rw [if_neg hlr]
      have e2 : ev lt (KasT.ask (p.getD k 0) (p.getD ((l + r) / 2) 0) fun c => if c = true then kas_place p k f l ((l + r) / 2) else kas_place p k f ((l + r) / 2 + 1) r) = ev lt (if lt (gg p k) (gg p ((l + r) / 2)) = true then kas_place p k f l ((l + r) / 2) else kas_place p k f ((l + r) / 2 + 1) r) := rfl
      rw [e2]
      generalize hm : (l + r) / 2 = m
      have m1 : l ≤ m := by omega
      have m2 : m < r := by omega
      cases c : lt (gg p k) (gg p m) with
      | true =>
        rw [if_pos rfl]
        refine place_ok O P hk u f l m m1 (by omega) (by omega) a fun i hi hik => ?_
        by_cases e3 : i = m
        · subst e3; exact c
        · exact O.tr _ _ _ (P.lt hk) (P.lt (by omega)) (P.lt (by omega)) c (u m i (by omega) hik)
      | false =>
        rw [if_neg (by simp)]
        have c' := O.flip (P.lt hk) (P.lt (by omega)) (P.ne hk (by omega) (by omega)) c
        refine place_ok O P hk u f (m + 1) r (by omega) h2 (by omega) (fun i hi => ?_) b
        by_cases e3 : i = m
        · subst e3; exact c'
        · exact O.tr _ _ _ (P.lt (by omega)) (P.lt (by omega)) (P.lt hk) (u i m (by omega) (by omega)) c'
theorem gg_bubble {k d x : Nat} (hk : k < p.size) (hd : d ≤ k) : gg (bubble p k d) x = if x = k - d then gg p k else if k - d < x ∧ x ≤ k then gg p (x - 1) else gg p x := by
  have e := getElem?_bubble hk d hd x
  have e0 : ∀ (q : Array Nat) (x : Nat), gg q x = (q[x]?).getD 0 := fun q x => by simp [gg]
  rw [e0, e0, e0, e0, e]
  split
  · rfl
  · split <;> rfl
theorem bin_ok (O : TotalOn lt N) : ∀ (f : Nat) (p : Array Nat) (k : Nat), Pm p N → k + f = N → Up lt p k → Pm (ev lt (kas_bin f p k)) N ∧ Up lt (ev lt (kas_bin f p k)) N
  | 0, p, k, P, e, u => by
    have : k = N := by omega
    subst this
    exact ⟨P, u⟩
  | f + 1, p, k, P, e, u => by
    have e1 : kas_bin (f + 1) p k = (kas_place p k k 0 k).bind fun l => kas_bin f (bubble p k (k - l)) (k + 1) := rfl
    rw [e1, ev_bind]
    have hk : k < N := by omega
    obtain ⟨a1, a2, a3⟩ := place_ok O P hk u k 0 k (Nat.zero_le _) (Nat.le_refl _) (by omega) (fun i hi => by omega) (fun i h1 h2 => by omega)
    generalize ev lt (kas_place p k k 0 k) = l at a1 a2 a3
    have hs : k < p.size := by rw [P.size]; exact hk
    refine bin_ok O f _ (k + 1) (P.perm (bubble_perm p k _)) (by omega) fun i j hij hj => ?_
    rw [gg_bubble hs (by omega), gg_bubble hs (by omega)]
    have ekl : k - (k - l) = l := by omega
    rw [ekl]
    by_cases h1 : i = l
    · rw [if_pos h1, if_neg (by omega), if_pos (by omega)]
      exact a3 _ (by omega) (by omega)
    · rw [if_neg h1]
      by_cases h2 : l < i ∧ i ≤ k
      · rw [if_pos h2, if_neg (by omega), if_pos (by omega)]
        exact u _ _ (by omega) (by omega)
      · rw [if_neg h2]
        by_cases h3 : j = l
        · rw [if_pos h3]
          exact a2 i (by omega)
        · rw [if_neg h3]
          by_cases h4 : l < j ∧ j ≤ k
          · rw [if_pos h4]
            by_cases h5 : i = j - 1
            · omega
            · exact u _ _ (by omega) (by omega)
          · rw [if_neg h4]
            exact u _ _ hij (by omega)
theorem bin_t (O : TotalOn lt N) : ∀ (f : Nat) (p : Array Nat) (k : Nat), Pm p N → k + f = N → okT lt N (kas_bin f p k)
  | 0, p, k, P, e => trivial
  | f + 1, p, k, P, e => by
    show okT lt N ((kas_place p k k 0 k).bind fun l => kas_bin f (bubble p k (k - l)) (k + 1))
    exact okT_bind _ (place_t P (by omega) _ _ _ (Nat.le_refl _)) (bin_t O f _ (k + 1) (P.perm (bubble_perm p k _)) (by omega))
theorem sort_t (O : TotalOn lt N) (h2 : 2 ≤ N) : okT lt N (kas_sort N) := by
  have P0 : Pm (List.toArray (List.range N)) N := List.Perm.refl _
  obtain ⟨m, q, e, m1, m2, Pq, uq⟩ := count_ok O P0 h2
  unfold kas_sort
  refine okT_bind _ (count_t O P0 h2) ?_
  rw [e]
  dsimp only
  by_cases hm : m < N
  · rw [if_pos hm]
    have em : max m 1 = m := by omega
    rw [em]
    exact bin_t O (N - m) q m Pq (by omega)
  · rw [if_neg hm]; trivial
theorem sort_ok (O : TotalOn lt N) (h2 : 2 ≤ N) : Pm (ev lt (kas_sort N)) N ∧ Up lt (ev lt (kas_sort N)) N := by
  have P0 : Pm (List.toArray (List.range N)) N := List.Perm.refl _
  obtain ⟨m, q, e, m1, m2, Pq, uq⟩ := count_ok O P0 h2
  unfold kas_sort
  rw [ev_bind, e]
  dsimp only
  by_cases hm : m < N
  · rw [if_pos hm]
    have em : max m 1 = m := by omega
    rw [em]
    exact bin_ok O (N - m) q m Pq (by omega) uq
  · rw [if_neg hm]
    have : m = N := by omega
    subst this
    exact ⟨Pq, uq⟩
end
end MyS
end
section
set_option Elab.async false
set_option linter.all false
set_option maxRecDepth 100000
set_option maxHeartbeats 1000000
namespace L2
open PySem PySem.Spec PyProof.Rows
theorem HOk.track {P : Program} {w : World} {H : Hp} {h : Heap} {a : Addr} {o : HO} (x : HOk P w H h) (hn : H a = none) (new : ObjOk P w (upd H a o) h a o) : HOk P w (upd H a o) h := fun b u e => by
  by_cases hb : b = a
  · subst hb; rw [upd_same] at e; cases e; exact new
  · rw [upd_ne hb] at e
    refine (x b u e).stay (fun c v _ q => q) (fun c q => ?_) fun c xs q => ?_
    · rw [upd_ne (ne_of_none q hn)]; exact q
    · rw [upd_ne (ne_of_none q hn)]; exact q
theorem HOk.but {P : Program} {w : World} {H : Hp} {h h' : Heap} {C : Addr} (x : HOk P w H h) (hn : H C = none) (k : ∀ b u, b ≠ C → h.get? b = some u → h'.get? b = some u) : HOk P w H h' := fun b u e => by
  refine (x b u e).stay (fun c v hc q => k c v ?_ q) (fun _ q => q) fun _ _ q => q
  rintro rfl
  rcases hc with z | z
  · rw [z, e] at hn; cases hn
  · rw [z] at hn; cases hn
theorem relabel_free {env : Env} : ∀ {names : List (Str × NameKind)} {x : Str}, names.lookup x = some .free →
    (names.map fun (n, k) => if (k == NameKind.free && env.scope.kind == .function && env.kindOf n == some .cell) then (n, NameKind.cell) else (n, k)).lookup x = some .cell ∨
    (names.map fun (n, k) => if (k == NameKind.free && env.scope.kind == .function && env.kindOf n == some .cell) then (n, NameKind.cell) else (n, k)).lookup x = some .free
  | [], _, h => by simp at h
  | (n, k) :: r, x, h => by
    rw [List.map_cons]
    cases hx : x == n with
    | true =>
      rw [List.lookup_cons, hx] at h
      cases h
      dsimp only
      split
      · left; rw [List.lookup_cons, hx]
      · right; rw [List.lookup_cons, hx]
    | false =>
      rw [List.lookup_cons, hx] at h
      have ih := relabel_free (env := env) h
      dsimp only
      split
      · rw [List.lookup_cons, hx]; exact ih
      · rw [List.lookup_cons, hx]; exact ih
theorem relabel_inv {env : Env} : ∀ {names : List (Str × NameKind)} {x : Str} {k' : NameKind}, (k' = .cell ∨ k' = .free) →
    (names.map fun (n, k) => if (k == NameKind.free && env.scope.kind == .function && env.kindOf n == some .cell) then (n, NameKind.cell) else (n, k)).lookup x = some k' → ∃ k, (x, k) ∈ names ∧ (k = .cell ∨ k = .free)
  | [], _, _, _, h => by simp at h
  | (n, k) :: r, x, k', hk, h => by
    rw [List.map_cons] at h
    cases hx : x == n with
    | true =>
      have e : x = n := by simpa using hx
      subst e
      dsimp only at h
      split at h
      · rename_i hc
        have : k = .free := by
          rw [Bool.and_eq_true, Bool.and_eq_true] at hc
          simpa using hc.1.1
        exact ⟨k, List.mem_cons_self .., .inr this⟩
      · rw [List.lookup_cons, hx] at h
        cases h
        exact ⟨k, List.mem_cons_self .., hk⟩
    | false =>
      have h' : (r.map fun (n, k) => if (k == NameKind.free && env.scope.kind == .function && env.kindOf n == some .cell) then (n, NameKind.cell) else (n, k)).lookup x = some k' := by
        dsimp only at h
        split at h
        · rw [List.lookup_cons, hx] at h; exact h
        · rw [List.lookup_cons, hx] at h; exact h
      obtain ⟨k0, h0, h1⟩ := relabel_inv (env := env) hk h'
      exact ⟨k0, List.mem_cons_of_mem _ h0, h1⟩
def cxComp (X : Cx) (N : List Str) (scope : Scope) (cl : List (Str × Addr)) (C : Addr) (s : Shared) (H : Hp) (ex : List Addr) : Cx where
  prog := X.prog
  w := X.w
  K := X.K
  mg := X.mg
  base := X.base
  A := X.A
  N := N
  s₀ := s
  H₀ := H
  env := compEnvC scope cl C X.env
  outer := X.stack
  stack := X.stack
  ex := ex
  fn := fun _ => false
  calm := X.calm
  pn := []
  xe := fun _ _ => False
structure CompScope (sc : Scope) (XN N : List Str) (scope : Scope) (caps : List Nat) : Prop where
  kind : scope.kind = .function
  nd : N.Nodup
  nocell : ∀ y ∈ scope.names, y.2 ≠ .cell
  names : ∀ y ∈ scope.names, y.2 = .local → scope.names.lookup y.1 = some .local
  free : ∀ y ∈ scope.names, y.2 = .free → sc.names.lookup y.1 = some .cell ∨ sc.names.lookup y.1 = some .free
  cap : ∀ (i : Nat), i < caps.length → ∃ x, N[i]? = some x ∧ XN[caps.getD i 0]? = some x ∧ scope.names.lookup x = some .free ∧ (sc.names.lookup x = some .cell ∨ sc.names.lookup x = some .free)
  len : caps.length ≤ N.length
def capStart (caps : List Nat) (n : Nat) (σ : St) : St := caps.map (fun j => (σ[j]?).join) ++ List.replicate (n - caps.length) none
def PF (X : Cx) (ifs : List Expr) (tc : TT) : Prop :=
  ∀ (pins : List (Addr × Obj)) (s : Shared) (σ : St) (H : Hp) (Q : Bool → Hp → Prop), Inv X pins σ H s → tc σ H Q →
    wpAny (model X.prog X.w) X.A (forIn ifs true fun c r => if r = true then do let ok ← isTrue c X.env (eval c X.env); pure (ForInStep.yield ok) else pure (ForInStep.yield r)) (TP X pins σ Q) X.xe s
def tYes : TT := fun _ H Q => Q true H
theorem pf_nil {X : Cx} : PF X [] tYes := fun pins s σ H Q I h => by
  rw [List.forIn_nil]
  exact wpAny_pure ⟨H, I, h⟩
theorem pf_one {X : Cx} {c : Expr} {tc : TT} (hc : PT X c tc) : PF X [c] tc := fun pins s σ H Q I h => by
  rw [List.forIn_cons]
  refine wpAny_bind ?_
  rw [if_pos rfl]
  refine wpAny_bind (thn (hc pins s σ H Q I h) fun ok s1 q => wpAny_pure ?_)
  show wpAny _ _ (forIn [] ok _) _ _ _
  rw [List.forIn_nil]
  exact wpAny_pure q
def tComp (wi : TI) (g : TG) (tc : TT) (te : TE) (caps : List Nat) (n : Nat) : TE := fun σ H Q => wi σ H fun J H1 => ∃ W : Nat → Nat → List V → St → Hp → Prop, (∃ m, W 0 m [] (capStart caps n σ) H1) ∧ ∀ i m acc σ' H', W i m acc σ' H' →
  (J.stop i H' ∧ ∀ D, H' D = none → Q (.ref D) (upd H' D (.lst acc))) ∨
  (J.go i H' ∧ acc.length < sizeLine ∧ ∀ x H2, J.yld i H' x H2 → g x σ' H2 fun σ2 H3 => tc σ2 H3 fun b H4 => if b = true then te σ2 H4 fun y H5 => ∃ m', m' < m ∧ W (i + 1) m' (acc ++ [y]) σ2 H5 else ∃ m', m' < m ∧ W (i + 1) m' acc σ2 H4)
section
variable {X : Cx} {pins : List (Addr × Obj)} {σ : St} {H : Hp} {s : Shared} {N : List Str} {scope : Scope} {cl : List (Str × Addr)} {C : Addr} {fp : List Addr} {caps : List Nat}
theorem comp_ok (I : Inv X pins σ H s) (S : CompScope X.env.scope X.N N scope caps) (h1 : ∀ x c, cl.lookup x = some c → X.env.cells.lookup x = some c) (h2 : ∀ x, (x, NameKind.free) ∈ scope.names → ∃ c, cl.lookup x = some c)
    (hC : s.heap.objs.size ≤ C) (hf : ∀ b ∈ fp, FpOk X pins H b) (hfo : ∀ b ∈ fp, b < s.heap.objs.size) : (cxComp X N scope cl C s H fp).Ok where
  mod := I.ok.mod
  kind := S.kind
  glob := I.ok.glob
  blt := I.ok.blt
  above := hC
  inj := fun x y c a b => I.ok.inj x y c (h1 x c a) (h1 y c b)
  has := fun x hx => by
    have hx' : ∃ k', (k' = NameKind.cell ∨ k' = .free) ∧ (relabel scope X.env).names.lookup x = some k' := by
      rcases hx with z | z
      · exact ⟨_, .inl rfl, z⟩
      · exact ⟨_, .inr rfl, z⟩
    obtain ⟨k', hk, z⟩ := hx'
    obtain ⟨k, m, e⟩ := relabel_inv hk z
    rcases e with e | e
    · exact absurd e (S.nocell _ m)
    · subst e; exact h2 x m
  cab := fun x c z => by cases z
  hd := I.ok.hd
  frames := I.ok.frames
  stk := .inl rfl
  exf := fun b hb => by
    obtain ⟨_, _, _, _, f4, _⟩ := hf b hb
    exact ⟨Nat.ne_of_lt (Nat.lt_of_lt_of_le (hfo b hb) hC), fun x c e => f4 x c (h1 x c e)⟩
  bs := I.bs
  bsz := Nat.le_trans I.ok.bsz I.sz
  noex := fun b o e hb => by
    obtain ⟨_, _, _, f3, _⟩ := hf b hb
    rcases f3 with z | z
    · exact I.ok.noex b o e z
    · exact absurd (Nat.lt_of_lt_of_le (Heap.lt_size e) (Nat.le_trans I.ok.bsz z)) (Nat.lt_irrefl _)
  exfs := fun b hb z => by
    obtain ⟨_, f1, f2, _⟩ := hf b hb
    rcases List.mem_cons.mp (I.stkSub b z) with e | e
    · exact f1 e
    · exact f2 e
  funs := I.stack
  frf := I.stkFree
theorem comp_start {h1 : Heap} {D : Addr} {od : Obj} {t : Nat} {m : Str → Option Value} (I : Inv X pins σ H s) (ok : (cxComp X N scope cl C s H fp).Ok) (S : CompScope X.env.scope X.N N scope caps)
    (hcl : ∀ x c, cl.lookup x = some c → X.env.cells.lookup x = some c) (hcl2 : ∀ x, (x, NameKind.free) ∈ scope.names → ∃ c, cl.lookup x = some c)
    (keep : ∀ b o, s.heap.get? b = some o → h1.get? b = some o) (hn : h1.Ns C m) (hC : s.heap.objs.size ≤ C) (hD : h1.get? D = some od) (hDs : s.heap.objs.size ≤ D) (hDC : D ≠ C) (hdc : ∀ v, od.data ≠ .cell v) :
    Inv (cxComp X N scope cl C s H fp) [(D, od)] (capStart caps N.length σ) H { s with heap := h1, toks := t } := by
  have cellK : ∀ x c, cl.lookup x = some c → ∀ v, s.heap.IsCell c v → h1.IsCell c v := fun x c e v ⟨o, ho, hd⟩ => ⟨o, keep c o ho, hd⟩
  refine ⟨ok, rfl, I.bare, Un.kept keep, ⟨m, hn, fun i x v e1 e2 e3 => ?_⟩, fun x c e => ?_, I.hok.fresh hC, fun x c e => I.freeC x c (hcl x c e), fun p hp => ?_, I.hok.kept keep, ?_⟩
  · have hi : i < caps.length := by
      by_cases hi : i < caps.length
      · exact hi
      · exfalso
        unfold capStart at e2
        rw [List.getElem?_append_right (by simpa using hi), List.getElem?_replicate] at e2
        split at e2 <;> cases e2
    obtain ⟨y, y1, y2, y3, y4⟩ := S.cap i hi
    have exy : x = y := by
      have e1' : N[i]? = some x := e1
      rw [y1] at e1'; exact (Option.some.inj e1').symm
    subst exy
    have e4 : σ[caps.getD i 0]? = some (some v) := by
      unfold capStart at e2
      rw [List.getElem?_append_left (by simpa using hi), List.getElem?_map] at e2
      have : caps[i]? = some (caps.getD i 0) := by rw [List.getD_eq_getElem?_getD]; simp [hi]
      rw [this] at e2
      have e2' : (σ[caps.getD i 0]?).join = some v := by simpa using e2
      cases q : σ[caps.getD i 0]? with
      | none => rw [q] at e2'; cases e2'
      | some z => rw [q] at e2'; have : z = some v := e2'; rw [this]
    obtain ⟨m', _, hl⟩ := I.loc
    obtain ⟨u, r, l⟩ := hl _ x v y2 e4 (y4.elim (fun z => .inr (.inl z)) fun z => .inr (.inr z))
    refine ⟨u, r, ?_⟩
    have nl : X.env.kindOf x ≠ some .local := by
      rcases y4 with z | z
      · show X.env.scope.names.lookup x ≠ _; rw [z]; decide
      · show X.env.scope.names.lookup x ≠ _; rw [z]; decide
    rcases l with ⟨k, _⟩ | ⟨_, c, hc, z⟩
    · exact absurd k nl
    · obtain ⟨c', hc'⟩ := hcl2 x (PySem.mem_of_lookup y3)
      have : c = c' := Option.some.inj (hc.symm.trans (hcl x c' hc'))
      subst this
      refine .inr ⟨?_, c, hc', cellK x c hc' _ z⟩
      exact relabel_free (env := X.env) y3
  · obtain ⟨v, z⟩ := I.cell x c (hcl x c e)
    exact ⟨v, cellK x c e v z⟩
  · have : p = (D, od) := by
      have hp' : p ∈ [(D, od)] := hp
      simpa using hp'
    subst this
    refine ⟨hD, I.hok.fresh hDs, hDC, fun z => ?_, hdc⟩
    have z' : D ∈ frs X.stack := z
    obtain ⟨_, o, ho, _⟩ := I.stack.mem z'
    exact absurd (Nat.lt_of_lt_of_le (Heap.lt_size ho) hDs) (Nat.lt_irrefl _)
  · unfold capStart
    show _ = N.length
    rw [List.length_append, List.length_map, List.length_replicate]
    have := S.len
    omega
end
section
variable {X : Cx}
theorem pe_comp {tg iter elt : Expr} {ifs : List Expr} {scope : Scope} {pos : Pos} {wi : TI} {g : TG} {tc : TT} {te : TE} {N : List Str} {caps : List Nat} (hc : X.calm = true) (S : CompScope X.env.scope X.N N scope caps)
    (hi : PI X tg iter wi) (hg : ∀ cl C s H ex, PG (cxComp X N scope cl C s H ex) tg g) (hf : ∀ cl C s H ex, PF (cxComp X N scope cl C s H ex) ifs tc) (he : ∀ cl C s H ex, PE (cxComp X N scope cl C s H ex) elt te)
    (hs : ∀ x, foldedSetIterable iter X.env x = pure x := by intro _; rfl) : PE X (.ListComp elt [⟨tg, iter, ifs, 0⟩] scope pos) (tComp wi g tc te caps N.length) := by
  intro pins s σ H Q I h
  obtain ⟨cl, hcl, hcl1, hcl2⟩ := closure_of (env := X.env) (scope := scope) fun y hy e => I.ok.has y.1 (S.free y hy e)
  rw [eval_ListComp]
  refine wpAny_comprehension_free (use := none) rfl hs hcl S.kind S.names (thn (hi pins s σ H _ I h) fun v s1 h1 => thn h1 fun itv s2 h2 => ?_)
  obtain ⟨it, fp, tn, J, H2, e, I2, T, st2, f2, W, ⟨m0, w0⟩, turn⟩ := h2
  subst e
  refine wpAny_newObj_type (wpAny_newFunctionEnv S.nocell (by intro y hy; simp at hy) (fun h₁ hns hsb => ?_) S.kind)
  dsimp only at hns hsb ⊢
  generalize hG : s2.heap.push { cls := .type "list", dict := none, data := .seq ([] : List Value).toArray } = G at hns hsb ⊢
  have hCs : G.objs.size = s2.heap.objs.size + 1 := by rw [← hG, Heap.size_push]
  have hDC : s2.heap.objs.size ≠ G.objs.size := by rw [hCs]; exact Nat.ne_of_lt (Nat.lt_succ_self _)
  have old : ∀ b o, s2.heap.get? b = some o → h₁.get? b = some o := fun b o e => by
    have hb := Heap.lt_size e
    refine hsb.extBut b o (by rw [hCs]; exact Nat.ne_of_lt (Nat.lt_succ_of_lt hb)) (Heap.get?_push_of_some _ ?_)
    rw [← hG]
    exact Heap.get?_push_of_some _ e
  have hD : h₁.get? s2.heap.objs.size = some { cls := .type "list", dict := none, data := .seq ([] : List Value).toArray } := by
    refine hsb.extBut _ _ hDC (Heap.get?_push_of_some _ ?_)
    rw [← hG]
    exact Heap.get?_push_size _ rfl
  have hfo : ∀ b ∈ fp, b < s2.heap.objs.size := fun b hb => let ⟨o, e, _⟩ := T.obj 0 _ st2 b hb; Heap.lt_size e
  have hCle : s2.heap.objs.size ≤ G.objs.size := by omega
  have ok := comp_ok (C := G.objs.size) I2 S hcl1 hcl2 hCle f2 hfo
  have I0 : Inv (cxComp X N scope cl G.objs.size s2 H2 fp) [(s2.heap.objs.size, { cls := .type "list", dict := none, data := .seq ([] : List Value).toArray })] (capStart caps N.length σ) H2 { s2 with heap := h₁, toks := s2.toks + ([] : List (Str × Value)).length } :=
    comp_start I2 ok S hcl1 hcl2 old hns hCle hD (Nat.le_refl _) hDC (fun v z => by cases z)
  have st1 : tn 0 h₁ := T.keep 0 _ _ st2 fun b _ o e => old b o e
  generalize hX : cxComp X N scope cl G.objs.size s2 H2 fp = X' at I0
  generalize hDa : s2.heap.objs.size = D at I0 hD hDC
  have loop : codeAny (model X.prog X.w) X.A (.compLoop (.ListComp elt [⟨tg, iter, ifs, 0⟩] scope pos) 0 (.ref it) (.ref D) (compEnvC scope cl G.objs.size X.env)) (compPost (model X.prog X.w) X.A X.xe none (EP X pins σ Q) (.ref D) G.objs.size)
      { s2 with heap := h₁, toks := s2.toks + ([] : List (Str × Value)).length } := by
    subst hX
    refine loop_comp (J := fun n s' => ∃ i σ' H' acc its e, Inv (cxComp X N scope cl G.objs.size s2 H2 fp) [(D, { cls := .type "list", data := .seq (List.toArray its) e })] σ' H' s' ∧ Vals acc its ∧ acc.length ≤ sizeLine ∧ tn i s'.heap ∧ (∀ b ∈ fp, H' b = none) ∧ W i n acc σ' H')
      ?_ m0 ⟨0, _, H2, [], [], 0, I0, .nil, Nat.zero_le _, st1, fun b hb => (f2 b hb).1, w0⟩
    rintro n s3 ⟨i, σ3, H3, acc, its, ep, I3, rv, hz, st3, fr3, w3⟩
    have stat : ∀ {H' : Hp} {pl : List (Addr × Obj)}, (∀ b ∈ fp, H' b = none) → (∀ p ∈ pl, p.1 = D) → ∀ b ∈ fp, FpOk (cxComp X N scope cl G.objs.size s2 H2 fp) pl H' b := fun {H' pl} hn hpl b hb => by
      obtain ⟨a1, a2⟩ := ok.exf b hb
      exact ⟨hn b hb, a1, ok.exfs b hb, .inl hb, fun x c e => a2 x c e, fun p hp => by
        have hp' : p ∈ pl := hp
        rw [hpl p hp', ← hDa]
        exact Nat.ne_of_gt (hfo b hb)⟩
    have one : ∀ p ∈ [(D, ({ cls := .type "list", data := .seq (List.toArray its) ep } : Obj))], p.1 = D := fun p hp => by
      rcases List.mem_cons.mp hp with e | e
      · rw [e]
      · cases e
    have pinD : ∀ {pl : List (Addr × Obj)} {σ' : St} {H' : Hp} {s' : Shared} {o : Obj}, Inv (cxComp X N scope cl G.objs.size s2 H2 fp) pl σ' H' s' → (D, o) ∈ pl → s'.heap.get? D = some o ∧ H' D = none := fun {pl σ' H' s' o} I' hm => by
      obtain ⟨a, b, _⟩ := I'.pin (D, o) (List.mem_append_right _ hm)
      exact ⟨a, b⟩
    rcases turn i n acc σ3 H3 w3 with ⟨stop, q⟩ | ⟨go, hlt, step⟩
    · refine wpAny_mono (T.done (cxComp X N scope cl G.objs.size s2 H2 fp) rfl rfl rfl hc i _ s3 σ3 H3 (fun _ _ => False) I3 (stat fr3 one) st3 stop) (fun r s4 ⟨hr, I4⟩ => ?_) fun _ _ f => f
      subst hr
      obtain ⟨hDo, hDn⟩ := pinD I4 (List.mem_cons_self ..)
      obtain ⟨m4, hm4, _⟩ := I4.loc
      refine ⟨m4, hm4, fun h' hsb' => ?_⟩
      have keepC : ∀ b u, b ≠ G.objs.size → s4.heap.get? b = some u → h'.get? b = some u := fun b u hb e => hsb'.extBut b u hb e
      have un : Un (frs X.stack) fp H2 H3 s2.heap s4.heap := I4.base
      have hDo' : h'.get? D = some { cls := .type "list", data := .seq (List.toArray its) ep } := keepC D _ hDC hDo
      have hlow : ∀ b (o : Obj), s2.heap.get? b = some o → b ≠ G.objs.size ∧ b ≠ D := fun b o e => by
        have h0 := Heap.lt_size e
        exact ⟨by rw [hCs]; exact Nat.ne_of_lt (Nat.lt_succ_of_lt h0), by rw [← hDa]; exact Nat.ne_of_lt h0⟩
      have un' : Un (frs X.stack) fp H2 (upd H3 D (.lst acc)) s2.heap h' :=
        ⟨fun b o e n' hb hx => keepC b o (hlow b o e).1 (un.keep b o e n' hb hx),
         fun b o e n' hb hx => let ⟨sl, q⟩ := un.slot b o e n' hb hx; ⟨sl, keepC b _ (hlow b o e).1 q⟩,
         fun b o e n' hx => by rw [upd_ne (hlow b o e).2]; exact un.free b o e n' hx,
         fun b o e hx => let ⟨o', q⟩ := un.there b o e hx; ⟨o', keepC b _ (hlow b o e).1 q⟩,
         fun b xs e => by rw [upd_ne (ne_of_none (un.tups b xs e) hDn)]; exact un.tups b xs e,
         fun b o u e => by rw [upd_ne (ne_of_none (un.frzs b o u e) hDn)]; exact un.frzs b o u e,
         fun b ps e => let ⟨mo, q⟩ := un.tbls b ps e; ⟨mo, by rw [upd_ne (ne_of_none q hDn)]; exact q⟩⟩
      have hok : HOk X.prog X.w (upd H3 D (.lst acc)) h' := (I4.hok.but I4.free keepC).track hDn ⟨hz, its, ep, rv, hDo'⟩
      refine ⟨.ref D, upd H3 D (.lst acc), I2.call' (s' := { s4 with heap := h' }) I4.os un' hok I4.bare (fun b hb => ?_), rfl, q D hDn⟩
      obtain ⟨_, f1, _, f3, f4, f5⟩ := f2 b hb
      exact ⟨f3, f1, f4, f5⟩
    · refine wpAny_mono (T.item (cxComp X N scope cl G.objs.size s2 H2 fp) rfl rfl rfl hc i _ s3 σ3 H3 (fun _ _ => False) I3 (stat fr3 one) st3 go) (fun r s4 ⟨u, hr, h4⟩ => ?_) fun _ _ f => f
      subst hr
      refine thn h4 fun _ s5 ⟨x, H5, I5, r5, y5, st5, fr5⟩ => ?_
      have I5' := I5.pinned (stat fr5 one) (T.obj _ _ st5)
      refine thn (hg cl G.objs.size s2 H2 fp _ s5 σ3 H5 x u _ I5' r5 (step x H5 y5)) fun _ s6 ⟨σ6, H6, I6, q6⟩ => ?_
      refine thn (hf cl G.objs.size s2 H2 fp _ s6 σ6 H6 _ I6 q6) fun b s7 ⟨H7, I7, q7⟩ => ?_
      have fin : ∀ {pl : List (Addr × Obj)} {σ' : St} {H' : Hp} {s' : Shared}, Inv (cxComp X N scope cl G.objs.size s2 H2 fp) (pl ++ pinsAt fp s5.heap) σ' H' s' → tn (i + 1) s'.heap ∧ ∀ b ∈ fp, H' b = none := fun {pl σ' H' s'} I' => by
        refine ⟨T.keep _ _ _ st5 fun b hb o e => (I'.pin (b, o) (List.mem_append_right _ (List.mem_append_right _ (mem_pinsAt hb e)))).1, fun b hb => ?_⟩
        obtain ⟨o, e, _⟩ := T.obj _ _ st5 b hb
        exact (I'.pin (b, o) (List.mem_append_right _ (List.mem_append_right _ (mem_pinsAt hb e)))).2.1
      cases b with
      | false =>
        rw [if_neg Bool.false_ne_true] at q7 ⊢
        obtain ⟨m', hm, w7⟩ := q7
        obtain ⟨a1, a2⟩ := fin I7
        exact ⟨m', hm, i + 1, σ6, H7, acc, its, ep, I7.unpinned, rv, hz, a1, a2, w7⟩
      | true =>
        rw [if_pos rfl] at q7 ⊢
        refine thn (he cl G.objs.size s2 H2 fp _ s7 σ6 H7 _ I7 q7) fun y s8 ⟨yv, H8, I8, r8, m', hm, w8⟩ => ?_
        obtain ⟨a1, a2⟩ := fin I8
        obtain ⟨b1, b2⟩ := pinD I8 (List.mem_append_left _ (List.mem_cons_self ..))
        have hl := rv.length
        refine call_meets F.slot_list_append ⟨_, b1, rfl⟩ F.entry_list_append (F.args_list_append_2 _ _) (PySem.list_append D its.toArray ep y (by rw [List.size_toArray]; omega)) ⟨b1, ?_⟩
        have q9 := PySem.IsL.update b1 (·.push y)
        have kp : ∀ b o, b ≠ D → s8.heap.get? b = some o → (s8.heap.update D (Obj.mapSeq (·.push y))).get? b = some o := fun b o hb e => (Heap.get?_update_other s8.heap (Obj.mapSeq (·.push y)) (Ne.symm hb)).trans e
        have I9 : Inv (cxComp X N scope cl G.objs.size s2 H2 fp) [] σ6 H8 { s8 with heap := s8.heap.update D (Obj.mapSeq (·.push y)) } :=
          (I8.pins_of (pins' := []) fun p hp => by cases hp).turned (t' := s8.toks) kp b2 hDC (.inr (by rw [← hDa]; exact Nat.le_refl _)) (fun x c e z => by
            have e' : X.env.cells.lookup x = some c := hcl1 x c e
            obtain ⟨v', hv'⟩ := I2.cell x c e'
            have h0 := hv'.lt
            rw [z, ← hDa] at h0
            exact Nat.lt_irrefl _ h0) fun p hp => by
              have : p ∈ ([] : List (Addr × Obj)) := hp
              cases this
        have hpu : its.toArray.push y = (its ++ [y]).toArray := by simp
        rw [hpu] at q9
        obtain ⟨e9, q9⟩ : ∃ e9, (s8.heap.update D (Obj.mapSeq (·.push y))).get? D = some { cls := .type "list", data := .seq (its ++ [y]).toArray e9 } := ⟨_, q9⟩
        refine ⟨m', hm, i + 1, σ6, H8, acc ++ [yv], its ++ [y], e9, I9.pins_of fun p hp => ?_, rv.append (.cons r8 .nil), ?_, T.keep _ _ _ a1 fun b hb o e => kp b o ?_ e, a2, w8⟩
        · obtain rfl : p = (D, { cls := .type "list", data := .seq (its ++ [y]).toArray e9 }) := by
            rcases List.mem_cons.mp hp with e | e
            · exact e
            · cases e
          obtain ⟨_, _, c3, c4, _⟩ := I8.pin (D, _) (List.mem_append_right _ (List.mem_append_left _ (List.mem_cons_self ..)))
          exact ⟨q9, b2, c3, c4, fun v z => by cases z⟩
        · rw [List.length_append, List.length_singleton]; omega
        · rintro rfl
          have h0 := hfo b hb
          rw [hDa] at h0
          exact Nat.lt_irrefl _ h0
  exact codeAny_compStart_list loop (T.self X.A 0 _ _ _ st1 loop)
end
end L2
end
section
set_option Elab.async false
set_option linter.all false
set_option maxRecDepth 100000
set_option maxHeartbeats 1000000
namespace MyS
open PySem PySem.W PyProof.Rows PySem.Spec
theorem kas_of {α : Type} {N : Nat} {cmp : Nat → Nat → (Bool → Shared → Prop) → Shared → Prop} {lt : Nat → Nat → Bool} {s : Shared} (hc : ∀ i j, i < N → j < N → i ≠ j → ∀ C, C (lt i j) s → cmp i j C s) :
    ∀ (t : KasT α) (Q : α → Shared → Prop), okT lt N t → Q (ev lt t) s → t.kasWp cmp Q s
  | .ret a, Q, _, h => h
  | .ask i j k, Q, o, h => hc i j o.1 o.2.1 o.2.2.1 _ (kas_of hc (k (lt i j)) Q o.2.2.2 h)
def keyAt (ks : List Str) (i : Nat) : List Nat := (ks.getD i ⟨#[]⟩).cps.toList
def ltAt (ks : List Str) (i j : Nat) : Bool := decide (keyAt ks i < keyAt ks j)
theorem Str_ext {a b : Str} (h : a.cps.toList = b.cps.toList) : a = b := by
  cases a; cases b
  congr 1
  exact Array.toList_inj.mp h
def PairAt (h : Heap) (a : Addr) (v : Value) (k : Str) : Prop := ∃ b o t x n, v = Value.ref b ∧ b ≠ a ∧ h.get? b = some o ∧ o.cls = .type "tuple" ∧ o.data = .seq #[.str k t, x] n
theorem PairAt.keep {h h' : Heap} {a : Addr} {v : Value} {k : Str} (p : PairAt h a v k) (e : ∀ b o, b ≠ a → h.get? b = some o → h'.get? b = some o) : PairAt h' a v k := by
  obtain ⟨b, o, t, x, n, h1, h2, h3, h4⟩ := p
  exact ⟨b, o, t, x, n, h1, h2, e b o h2 h3, h4⟩
section
variable {prog : Program} {w : World} {A : Around} {E : Value → Shared → Prop} {s : Shared}
end
section
variable {prog : Program} {w : World} {A : Around} {E : Value → Shared → Prop} {s : Shared}
end
section
variable {prog : Program} {w : World} {A : Around} {E : Value → Shared → Prop} {s : Shared}
end
end MyS
end
section
set_option Elab.async false
set_option linter.all false
set_option maxRecDepth 100000
set_option maxHeartbeats 1000000
namespace L2
open PySem PySem.Spec PyProof.Rows
theorem Same.seqT {K : PySem.W.Frag} {H H' : Hp} {a : Addr} {xs : List V} (e : Same H H') (h : SqT K H a xs) : SqT K H' a xs := by
  rcases h with (h | ⟨o, h⟩) | h
  · exact .inl (.inl (e _ _ h))
  · exact .inl (.inr ⟨o, e _ _ h⟩)
  · exact .inr h
mutual
def Rep (K : PySem.W.Frag) (H : Hp) : PyData → V → Prop
  | .none, v => v = .non
  | .bool b, v => v = .bl b
  | .int i, v => v = .int i
  | .str x, v => v = .str x
  | .list ds, v => ∃ a xs, v = .ref a ∧ SqL K H a xs ∧ Reps K H ds xs
  | .tuple ds, v => ∃ a xs, v = .ref a ∧ SqT K H a xs ∧ Reps K H ds xs
  | .dict _, _ => False
def Reps (K : PySem.W.Frag) (H : Hp) : List PyData → List V → Prop
  | [], xs => xs = []
  | d :: ds, xs => ∃ y ys, xs = y :: ys ∧ Rep K H d y ∧ Reps K H ds ys
end
mutual
theorem Rep.same {K : PySem.W.Frag} {H H' : Hp} (e : Same H H') : ∀ (d : PyData) (v : V), Rep K H d v → Rep K H' d v
  | .none, v, h => h
  | .bool b, v, h => h
  | .int i, v, h => h
  | .str x, v, h => h
  | .list ds, v, h => by
    obtain ⟨a, xs, h1, h2, h3⟩ := h
    exact ⟨a, xs, h1, e.seq h2, Reps.same e ds xs h3⟩
  | .tuple ds, v, h => by
    obtain ⟨a, xs, h1, h2, h3⟩ := h
    exact ⟨a, xs, h1, e.seqT h2, Reps.same e ds xs h3⟩
  | .dict _, v, h => h
theorem Reps.same {K : PySem.W.Frag} {H H' : Hp} (e : Same H H') : ∀ (ds : List PyData) (xs : List V), Reps K H ds xs → Reps K H' ds xs
  | [], xs, h => h
  | d :: ds, xs, h => by
    obtain ⟨y, ys, h1, h2, h3⟩ := h
    exact ⟨y, ys, h1, Rep.same e d y h2, Reps.same e ds ys h3⟩
end
theorem Reps.length {K : PySem.W.Frag} {H : Hp} : ∀ {ds : List PyData} {xs : List V}, Reps K H ds xs → ds.length = xs.length
  | [], xs, h => by rw [show xs = [] from h]; rfl
  | d :: ds, xs, h => by
    obtain ⟨y, ys, h1, _, h3⟩ := h
    rw [h1, List.length_cons, List.length_cons, Reps.length h3]
theorem Reps.get {K : PySem.W.Frag} {H : Hp} : ∀ {ds : List PyData} {xs : List V} {i : Nat} {y : V}, Reps K H ds xs → xs[i]? = some y → ∃ d, ds[i]? = some d ∧ Rep K H d y
  | [], xs, i, y, h, e => by rw [show xs = [] from h] at e; simp at e
  | d :: ds, xs, i, y, h, e => by
    obtain ⟨z, zs, h1, h2, h3⟩ := h
    subst h1
    cases i with
    | zero =>
      have : z = y := by simpa using e
      subst this
      exact ⟨d, rfl, h2⟩
    | succ i =>
      obtain ⟨d', e1, e2⟩ := Reps.get (i := i) h3 (by simpa using e)
      exact ⟨d', by simpa using e1, e2⟩
theorem Reps.append {K : PySem.W.Frag} {H : Hp} : ∀ {ds es : List PyData} {xs ys : List V}, Reps K H ds xs → Reps K H es ys → Reps K H (ds ++ es) (xs ++ ys)
  | [], es, xs, ys, h, h' => by rw [show xs = [] from h]; exact h'
  | d :: ds, es, xs, ys, h, h' => by
    obtain ⟨z, zs, h1, h2, h3⟩ := h
    subst h1
    exact ⟨z, zs ++ ys, rfl, h2, Reps.append h3 h'⟩
theorem Reps.one {K : PySem.W.Frag} {H : Hp} {d : PyData} {v : V} (h : Rep K H d v) : Reps K H [d] [v] := ⟨v, [], rfl, h, rfl⟩
theorem Reps.drop {K : PySem.W.Frag} {H : Hp} : ∀ {ds : List PyData} {xs : List V} (k : Nat), Reps K H ds xs → Reps K H (ds.drop k) (xs.drop k)
  | [], xs, k, h => by rw [show xs = [] from h]; simp [Reps]
  | d :: ds, xs, 0, h => h
  | d :: ds, xs, k + 1, h => by
    obtain ⟨z, zs, h1, _, h3⟩ := h
    subst h1
    exact Reps.drop k h3
theorem Reps.take {K : PySem.W.Frag} {H : Hp} : ∀ {ds : List PyData} {xs : List V} (k : Nat), Reps K H ds xs → Reps K H (ds.take k) (xs.take k)
  | [], xs, k, h => by rw [show xs = [] from h]; simp [Reps]
  | d :: ds, xs, 0, h => by simp [Reps]
  | d :: ds, xs, k + 1, h => by
    obtain ⟨z, zs, h1, h2, h3⟩ := h
    subst h1
    exact ⟨z, zs.take k, rfl, h2, Reps.take k h3⟩
theorem Reps.strs {K : PySem.W.Frag} {H : Hp} : ∀ {ss : List Str} {xs : List V}, Reps K H (ss.map PyData.str) xs ↔ xs = ss.map V.str
  | [], xs => Iff.rfl
  | s :: ss, xs => by
    constructor
    · rintro ⟨y, ys, h1, h2, h3⟩
      have h2' : y = .str s := h2
      rw [h1, h2', Reps.strs.mp h3]; rfl
    · intro e
      exact ⟨.str s, ss.map V.str, e, rfl, Reps.strs.mpr rfl⟩
section
variable {X : Cx} {pins : List (Addr × Obj)} {σ : St} {H : Hp} {s : Shared}
mutual
theorem Rep.reads (I : Inv X pins σ H s) : ∀ (d : PyData) (v : V) (u : Value), Rep X.K H d v → RelV v u → ∃ as, Reads s.heap u d as
  | .none, v, u, h, r => by
    have h' : v = .non := h
    subst h'
    cases r
    exact ⟨_, .none⟩
  | .bool b, v, u, h, r => by
    have h' : v = .bl b := h
    subst h'
    cases r
    exact ⟨_, .bool b⟩
  | .int i, v, u, h, r => by
    have h' : v = .int i := h
    subst h'
    obtain ⟨t, rfl⟩ := r
    exact ⟨_, .int i t⟩
  | .str x, v, u, h, r => by
    have h' : v = .str x := h
    subst h'
    obtain ⟨t, rfl⟩ := r
    exact ⟨_, .str x t⟩
  | .list ds, v, u, h, r => by
    obtain ⟨a, xs, h1, h2, h3⟩ := h
    subst h1
    cases r
    obtain ⟨its, rv, ⟨o, n, e, hc, _, hd⟩, _⟩ := I.list h2
    obtain ⟨as, ra⟩ := Reps.reads I ds xs its h3 rv
    exact ⟨_, .list e hc hd (by simpa using ra)⟩
  | .tuple ds, v, u, h, r => by
    obtain ⟨a, xs, h1, h2, h3⟩ := h
    subst h1
    cases r
    obtain ⟨its, rv, ⟨o, e, hc, n, hd⟩, _⟩ := I.tuple h2
    obtain ⟨as, ra⟩ := Reps.reads I ds xs its h3 rv
    exact ⟨_, .tuple e hc hd (by simpa using ra)⟩
  | .dict _, v, u, h, r => h.elim
theorem Reps.reads (I : Inv X pins σ H s) : ∀ (ds : List PyData) (xs : List V) (us : List Value), Reps X.K H ds xs → Vals xs us → ∃ as, ReadsAll s.heap us ds as
  | [], xs, us, h, r => by
    have h' : xs = [] := h
    subst h'
    cases r
    exact ⟨_, .nil⟩
  | d :: ds, xs, us, h, r => by
    obtain ⟨y, ys, h1, h2, h3⟩ := h
    subst h1
    cases r with
    | cons r1 r2 =>
      obtain ⟨as, ra⟩ := Rep.reads I d y _ h2 r1
      obtain ⟨bs, rb⟩ := Reps.reads I ds ys _ h3 r2
      exact ⟨_, .cons ra rb⟩
end
def rEqD (K : PySem.W.Frag) (neg : Bool) : R2 := fun x y H Q => ∃ d e, Rep K H d x ∧ Rep K H e y ∧ SeqAt.shaped d = true ∧ SeqAt.shaped e = true ∧ Q (.bl (if neg = true then !PyData.eqv d e else PyData.eqv d e)) H
theorem op_eqD (hu : X.A.units + 64 < cLine) : OpR X (compareOp .Eq) (rEqD X.K false) := by
  intro pins s σ H x y v u Q I rx ry h
  obtain ⟨d, e, h1, h2, h3, h4, q⟩ := h
  obtain ⟨as, ra⟩ := Rep.reads I d x v h1 rx
  obtain ⟨bs, rb⟩ := Rep.reads I e y u h2 ry
  exact eq_dataH ra rb h3 h4 hu ⟨.bl _, H, I, rfl, q⟩
theorem op_neD (hu : X.A.units + 64 < cLine) : OpR X (compareOp .NotEq) (rEqD X.K true) := by
  intro pins s σ H x y v u Q I rx ry h
  obtain ⟨d, e, h1, h2, h3, h4, q⟩ := h
  obtain ⟨as, ra⟩ := Rep.reads I d x v h1 rx
  obtain ⟨bs, rb⟩ := Rep.reads I e y u h2 ry
  exact ne_dataH ra rb h3 h4 hu ⟨.bl _, H, I, rfl, q⟩
end
mutual
theorem eqv_refl : ∀ d : PyData, d.canLay0 = true → PyData.eqv d d = true
  | .none, _ => rfl
  | .bool b, _ => by simp [PyData.eqv]
  | .int i, _ => by simp [PyData.eqv]
  | .str x, _ => by simp [PyData.eqv]
  | .list ds, h => by
    have h' : PyData.canLayAll0 ds = true := by simpa [PyData.canLay0] using h
    simp only [PyData.eqv]; exact eqvAll_refl ds h'
  | .tuple ds, h => by
    have h' : PyData.canLayAll0 ds = true := by simpa [PyData.canLay0] using h
    simp only [PyData.eqv]; exact eqvAll_refl ds h'
  | .dict _, h => by simp [PyData.canLay0] at h
theorem eqvAll_refl : ∀ ds : List PyData, PyData.canLayAll0 ds = true → PyData.eqvAll ds ds = true
  | [], _ => rfl
  | d :: ds, h => by
    have h' : d.canLay0 = true ∧ PyData.canLayAll0 ds = true := by simpa [PyData.canLayAll0] using h
    simp only [PyData.eqvAll, eqv_refl d h'.1, eqvAll_refl ds h'.2, Bool.and_self]
end
end L2
end
section
set_option Elab.async false
set_option linter.all false
set_option maxRecDepth 100000
set_option maxHeartbeats 1000000
namespace L2
open PySem PySem.Spec PyProof.Rows
def updL (H : Hp) (news : List (Addr × HO)) : Hp := fun b => match news.lookup b with
  | some o => some o
  | none => H b
theorem updL_old {H : Hp} {news : List (Addr × HO)} {b : Addr} (h : b ∉ news.map (·.1)) : updL H news b = H b := by
  unfold updL
  have : news.lookup b = none := by
    induction news with
    | nil => rfl
    | cons p r ih =>
      rw [List.map_cons, List.mem_cons, not_or] at h
      have hb : (b == p.1) = false := by simpa using h.1
      obtain ⟨x, y⟩ := p
      rw [List.lookup_cons, hb]
      exact ih h.2
  rw [this]
theorem updL_inv {H : Hp} {news : List (Addr × HO)} {b : Addr} {o : HO} (h : updL H news b = some o) : (b, o) ∈ news ∨ (b ∉ news.map (·.1) ∧ H b = some o) := by
  by_cases hb : b ∈ news.map (·.1)
  · left
    unfold updL at h
    cases e : news.lookup b with
    | some u =>
      rw [e] at h
      have : u = o := Option.some.inj h
      subst this
      clear h hb
      induction news with
      | nil => cases e
      | cons p r ih =>
        obtain ⟨x, y⟩ := p
        rw [List.lookup_cons] at e
        cases hx : b == x with
        | true =>
          rw [hx] at e
          have e1 : b = x := by simpa using hx
          have e2 : y = u := Option.some.inj e
          subst e1; subst e2
          exact List.mem_cons_self ..
        | false =>
          rw [hx] at e
          exact List.mem_cons_of_mem _ (ih e)
    | none =>
      exfalso
      clear h
      induction news with
      | nil => cases hb
      | cons p r ih =>
        obtain ⟨x, y⟩ := p
        rw [List.lookup_cons] at e
        cases hx : b == x with
        | true => rw [hx] at e; cases e
        | false =>
          rw [hx] at e
          rw [List.map_cons, List.mem_cons] at hb
          rcases hb with z | z
          · have : (b == x) = true := by simpa using z
            rw [this] at hx; cases hx
          · exact ih z e
  · rw [updL_old hb] at h
    exact .inr ⟨hb, h⟩
theorem updL_same {H : Hp} {news : List (Addr × HO)} (hn : ∀ p ∈ news, H p.1 = none) : Same H (updL H news) := fun b o e => by
  rw [updL_old fun z => ?_]
  · exact e
  · obtain ⟨p, hp, rfl⟩ := List.mem_map.mp z
    rw [hn p hp] at e; cases e
theorem ObjOk.obj {P : Program} {w : World} {H : Hp} {h : Heap} {a : Addr} {o : HO} (x : ObjOk P w H h a o) : ∃ u, h.get? a = some u := by
  cases o with
  | lst xs => obtain ⟨_, _, _, _, e⟩ := x; exact ⟨_, e⟩
  | tup xs => obtain ⟨_, _, _, _, e, _⟩ := x; exact ⟨_, e⟩
  | dK kvs => obtain ⟨_, _, _, _, o, _, _, e, _⟩ := x; exact ⟨_, e⟩
  | dT kvs => obtain ⟨_, _, _, _, o, _, _, e, _⟩ := x; exact ⟨_, e⟩
  | set S n => obtain ⟨o, _, _, _, e, _⟩ := x; exact ⟨_, e⟩
  | ins C dx fs => obtain ⟨_, _, _, e, _⟩ := x; exact ⟨_, e⟩
  | own y => exact x
  | xd fs => obtain ⟨_, ⟨_, _, _, e, _⟩, _⟩ := x; exact ⟨_, e⟩
  | rng lo hi => obtain ⟨_, _, _, e⟩ := x; exact ⟨_, e⟩
  | frz ob u => obtain ⟨e, _⟩ := x; exact ⟨_, e⟩
  | tbl ps => exact ⟨_, (show h.get? a = some _ from x)⟩
  | met f y => exact ⟨_, (show h.get? a = some _ from x)⟩
  | ext φ => obtain ⟨_, e, _⟩ := x; exact e
theorem HOk.free {P : Program} {w : World} {H : Hp} {h : Heap} {a : Addr} (x : HOk P w H h) (e : h.get? a = none) : H a = none := by
  cases q : H a with
  | none => rfl
  | some u =>
    obtain ⟨v, hv⟩ := (x a u q).obj
    rw [hv] at e; cases e
section
variable {X : Cx} {pins : List (Addr × Obj)} {σ : St} {H : Hp} {s : Shared}
theorem Inv.many {h' : Heap} {t' : Nat} {news : List (Addr × HO)} (I : Inv X pins σ H s) (k : ∀ b u, s.heap.get? b = some u → h'.get? b = some u) (hge : ∀ p ∈ news, s.heap.get? p.1 = none)
    (new : ∀ p ∈ news, ObjOk X.prog X.w (updL H news) h' p.1 p.2) : Inv X pins σ (updL H news) { s with heap := h', toks := t' } := by
  have hn : ∀ p ∈ news, H p.1 = none := fun p hp => I.hok.free (hge p hp)
  have sm := updL_same hn
  have hold : ∀ b (o : Obj), s.heap.get? b = some o → updL H news b = H b := fun b o e => updL_old fun z => by
    obtain ⟨p, hp, rfl⟩ := List.mem_map.mp z
    rw [hge p hp] at e; cases e
  refine I.un (H' := updL H news) ⟨fun b o e _ _ _ => k b o e, fun b o e _ _ _ => ⟨o.slots, k b o e⟩, fun b o e n _ => by rw [hold b o e]; exact n, fun b o e _ => ⟨o, k b o e⟩, fun b xs e => sm b _ e, fun b o u e => sm b _ e, fun b ps e => ⟨#[], by rw [sm b _ e]; simp⟩⟩ fun b u e => ?_
  rcases updL_inv e with z | ⟨_, z⟩
  · exact new (b, u) z
  · exact (I.hok b u z).stay (fun c v _ q => k c v q) (fun c q => sm c _ q) fun c xs q => sm c _ q
end
def vwObj (d : Addr) : Obj := { cls := .type "dict_items", data := .fields #[.ref d] }
def VW (p d : Addr) : HO := .ext fun h => h.get? p = some (vwObj d)
section
variable {X : Cx}
def rItems : V → List V → Hp → VK → Prop := fun x vs H Q => ∃ d kvs, x = .ref d ∧ vs = [] ∧ H d = some (.dK kvs) ∧ ∀ p, H p = none → Q (.ref p) (upd H p (VW p d))
abbrev encK (kvs : List (Str × V)) : List (Key × V) := kvs.map fun q => (Sum.inr q.1, q.2)
theorem KV.get {kvs : List (Key × V)} {vs : List (Key × Value)} : ∀ {i : Nat} {k : Key} {x : Value}, KV kvs vs → vs[i]? = some (k, x) → ∃ v, kvs[i]? = some (k, v) ∧ RelV v x := by
  intro i k x r
  induction r generalizing i with
  | nil => intro e; simp at e
  | cons h t ih =>
    intro e
    cases i with
    | zero =>
      have e' := Option.some.inj (by simpa using e)
      rename_i p q _ _
      obtain ⟨p1, p2⟩ := p
      subst e'
      have h1 : p1 = k := h.1
      subst h1
      exact ⟨p2, rfl, h.2⟩
    | succ i =>
      obtain ⟨v, e1, e2⟩ := ih (by simpa using e)
      exact ⟨v, by simpa using e1, e2⟩
def rSortedItems : List V → Hp → VK → Prop := fun xs H Q => ∃ p d kvs, xs = [.ref p] ∧ H p = some (VW p d) ∧ H d = some (.dK (encK kvs)) ∧ (kvs.map (·.1)).Nodup ∧ kvs.length < 64 ∧
  ∀ (out : List (Str × V)) (l : Addr) (ts : List V) (H' : Hp), out.Perm kvs → out.Pairwise (fun a b => a.1.cps.toList < b.1.cps.toList) → Same H H' → H' l = some (.lst ts) → H l = none → ts.length = out.length →
    (∀ (i : Nat) (q : Str × V), out[i]? = some q → ∃ a, ts[i]? = some (.ref a) ∧ H a = none ∧ H' a = some (.tup [.str q.1, q.2])) → Q (.ref l) H'
end
end L2
end
section
set_option Elab.async false
set_option linter.all false
set_option maxRecDepth 100000
set_option maxHeartbeats 1000000
namespace L2
open PySem PySem.Spec PyProof.Rows
def Its (z : Str) : It := ⟨fun i _ => i < z.cps.size, fun i H x H' => H' = H ∧ ∃ c, z.cps[i]? = some c ∧ x = .str ⟨#[c]⟩, fun i _ => i = z.cps.size⟩
theorem turn_str {P : Program} {w : World} {K : PySem.W.Frag} {tg : Expr} (it : Addr) (z : Str) (t : Tok) (ty : String) (hno : ["enumerate", "zip", "dict_itemiterator", "dict_reverseitemiterator", "odict_iterator", "itertools.zip_longest", "itertools.pairwise"].contains ty = false)
    (hW : ∀ A : Around, A.handled = none → Walks P w A it [it] [it] z.cps.size (SignAt z) (fun i h => h.IsStrIter it ty z t i))
    (hS : ∀ (A : Around) (i : Nat) (s : Shared) (Q : Value → Shared → Prop) (E : Value → Shared → Prop), s.heap.IsStrIter it ty z t i → Q (.ref it) s → wpAny (model P w) A (pyIter (.ref it)) Q E s) : Turn P w K tg (Its z) [it] it (fun i h => h.IsStrIter it ty z t i) where
  mem := by simp
  obj := fun i h st b hb => by
    have e : b = it := by simpa using hb
    subst e
    obtain ⟨o, e, c, d⟩ := st
    exact ⟨o, e, fun v z => by rw [d] at z; cases z⟩
  keep := fun i h h' st k => let ⟨o, e, r⟩ := st; ⟨o, k it (by simp) o e, r⟩
  item := by
    intro X hP hw hK hc i pins s σ H E I hf st hg
    subst hP hw hK
    obtain ⟨f0, f1, f2, f3, f4, f5⟩ := hf it (by simp)
    refine (hW X.A (I.ok.hd hc)).item i s _ _ hg st fun v h' tk hv st' kk => ?_
    obtain ⟨c, u, hcu, rfl⟩ := hv
    have I1 : Inv X pins σ H { s with heap := h', toks := tk } := I.turned (fun b o hb e => kk b o (by simpa using hb) e) f0 f1 f3 f4 f5
    obtain ⟨o, e, oc, od⟩ := id st'
    exact ⟨_, rfl, go_of (s := { s with heap := h', toks := tk }) e oc od hno ⟨.str ⟨#[c]⟩, H, I1, ⟨u, rfl⟩, ⟨rfl, c, hcu, rfl⟩, st', fun b hb => (hf b hb).1⟩⟩
  done := by
    intro X hP hw hK hc i pins s σ H E I hf st hg
    subst hP hw hK
    obtain ⟨f0, f1, f2, f3, f4, f5⟩ := hf it (by simp)
    have hi : i = z.cps.size := hg
    subst hi
    exact (hW X.A (I.ok.hd hc)).done s _ _ st fun h' tk kk => ⟨rfl, I.turned (fun b o hb e => kk b o (by simpa using hb) e) f0 f1 f3 f4 f5⟩
  self := hS
section
variable {X : Cx} {tg : Expr}
def iStr (tl : TE) : TI := fun σ H R => tl σ H fun x H1 => ∃ z, x = .str z ∧ R (Its z) H1
theorem pi_str {l : Expr} {tl : TE} (hl : PE X l tl) : PI X tg l (iStr tl) := by
  intro pins s σ H R I h
  refine thn (hl pins s σ H _ I h) fun v s1 ⟨x, H1, I1, r1, z, ez, q⟩ => ?_
  subst ez
  obtain ⟨t, rfl⟩ := r1
  have hn : ∀ b ∈ [s1.heap.objs.size], FpOk X pins H1 b := fun b hb => by
    have e : b = s1.heap.objs.size := by simpa using hb
    subst e
    exact I1.fpOk (Nat.le_refl _) (I1.hok.fresh (Nat.le_refl _))
  cases ha : z.cps.all (· < 128) with
  | false =>
    refine wpAny_pyIter_wide ha ⟨s1.heap.objs.size, [s1.heap.objs.size], _, _, H1, rfl, I1.kept (t' := s1.toks) fun b o e => Heap.get?_push_of_some _ e, turn_str _ z t "str_iterator" (by decide) (fun A hA => Walks.strWide hA _ z t) (fun A i s Q E st h => wpAny_pyIter_striter_wide st h), ⟨_, Heap.get?_push_size _ rfl, rfl, rfl⟩, hn, q⟩
  | true =>
    refine wpAny_pyIter_ascii ha ⟨s1.heap.objs.size, [s1.heap.objs.size], _, _, H1, rfl, I1.kept (t' := s1.toks) fun b o e => Heap.get?_push_of_some _ e, turn_str _ z t "str_ascii_iterator" (by decide) (fun A hA => Walks.strAscii hA _ z t) (fun A i s Q E st h => wpAny_pyIter_striter_ascii st h), ⟨_, Heap.get?_push_size _ rfl, rfl, rfl⟩, hn, q⟩
end
theorem idx_norm (lo hi : Option Int) (n : Nat) : Builtin.Str.strSliceIndices lo hi 1 n = Builtin.Str.strSliceIndices (some ((HT.sIx n 0 lo : Nat) : Int)) (some ((HT.sIx n n hi : Nat) : Int)) 1 n := by
  have hl := HT.sIx_le n 0 (Nat.zero_le _) lo
  have hh := HT.sIx_le n n (Nat.le_refl _) hi
  have key : ∀ (o : Option Int) (d : Nat), d ≤ n → (match o with | none => (d : Int) | some i => (let i := if i < 0 then i + (n : Int) else i; max 0 (min i (n : Int)))) = ((HT.sIx n d o : Nat) : Int) := by
    intro o d hd
    cases o with
    | none => rfl
    | some i =>
      show max 0 (min (if i < 0 then i + (n : Int) else i) (n : Int)) = (((if i < 0 then (i + (n : Int)).toNat else min i.toNat n) : Nat) : Int)
      by_cases h : i < 0
      · rw [if_pos h, if_pos h]; omega
      · rw [if_neg h, if_neg h]; omega
  have e1 := key lo 0 (Nat.zero_le _)
  have e2 := key hi n (Nat.le_refl _)
  have k1 : max (0 : Int) (min ((HT.sIx n 0 lo : Nat) : Int) (n : Int)) = ((HT.sIx n 0 lo : Nat) : Int) := by omega
  have k2 : max (0 : Int) (min ((HT.sIx n n hi : Nat) : Int) (n : Int)) = ((HT.sIx n n hi : Nat) : Int) := by omega
  have n1 : ¬ (((HT.sIx n 0 lo : Nat) : Int) < 0) := by omega
  have n2 : ¬ (((HT.sIx n n hi : Nat) : Int) < 0) := by omega
  unfold Builtin.Str.strSliceIndices
  simp only [show ((1 : Int) > 0) = True from by simp, if_true, n1, n2, if_false, k1, k2]
  have z1 : ∀ i : Int, (max 0 (min (if i < 0 then i + (n : Int) else i) (n : Int))) = ((HT.sIx n 0 (some i) : Nat) : Int) := fun i => key (some i) 0 (Nat.zero_le _)
  have z2 : ∀ i : Int, (max 0 (min (if i < 0 then i + (n : Int) else i) (n : Int))) = ((HT.sIx n n (some i) : Nat) : Int) := fun i => key (some i) n (Nat.le_refl _)
  have w1 : ((HT.sIx n 0 none : Nat) : Int) = 0 := rfl
  have w2 : ((HT.sIx n n none : Nat) : Int) = n := rfl
  cases lo with
  | none =>
    cases hi with
    | none => rfl
    | some j => dsimp only; rw [z2, w1]
  | some i =>
    cases hi with
    | none => dsimp only; rw [z1, w2]
    | some j =>
      dsimp only
      have zz := z1 i
      rw [zz]
      rw [z2]
theorem txt_slice (x : Str) (lo hi : Option Int) : Txt.slice x lo hi = ⟨((x.cps.toList.drop (HT.sIx x.length 0 lo)).take (HT.sIx x.length x.length hi - HT.sIx x.length 0 lo)).toArray⟩ := by
  have hl := HT.sIx_le x.length 0 (Nat.zero_le _) lo
  have hh := HT.sIx_le x.length x.length (Nat.le_refl _) hi
  unfold Txt.slice
  rw [idx_norm lo hi]
  generalize HT.sIx x.length 0 lo = a at *
  generalize HT.sIx x.length x.length hi = b at *
  have hlen : x.cps.toList.length = x.length := by simp [Str.length]
  by_cases hab : a ≤ b
  · have sp := StrLaws.sliced_plain x hab hh
    split
    · rename_i h
      rw [StrLaws.strSliceIndices_plain hab hh] at h
      have h' : b - a = x.length := by simpa using h
      have ha : a = 0 := by omega
      have hb : b = x.cps.toList.length := by omega
      subst ha
      apply MyS.Str_ext
      show x.cps.toList = ((x.cps.toList.drop 0).take (b - 0)).toArray.toList
      rw [List.drop_zero, Nat.sub_zero, hb, List.take_length]
    · rw [sp]
  · have hb : b - a = 0 := by omega
    have e : Builtin.Str.strSliceIndices (some (a : Int)) (some (b : Int)) 1 x.length = [] := by
      have h1 : ¬ ((a : Int) < 0) := by omega
      have h2 : ¬ ((b : Int) < 0) := by omega
      have e1 : max (0 : Int) (min (a : Int) (x.length : Int)) = a := by omega
      have e2 : max (0 : Int) (min (b : Int) (x.length : Int)) = b := by omega
      simp only [Builtin.Str.strSliceIndices, sliceRange, h1, h2, if_false, e1, e2, show ((1 : Int) > 0) = True from by simp, if_true]
      rw [if_neg (by omega)]
      rfl
    rw [e, hb]
    split
    · rename_i h
      have h' : 0 = x.length := by simpa using h
      omega
    · simp
section
variable {X : Cx} {e : Expr} {te : TE} {lo hi : Option Expr} {tl th : TO} {pos p2 : Pos}
def cutS (z : Str) (lo hi : Option Int) : Str := ⟨((z.cps.toList.drop (HT.sIx z.length 0 lo)).take (HT.sIx z.length z.length hi - HT.sIx z.length 0 lo)).toArray⟩
def tSlS (te : TE) (tl th : TO) : TE := fun σ H Q => te σ H fun x H1 => tl σ H1 fun l H2 => th σ H2 fun u H3 => ∃ z, x = .str z ∧ z.length ≤ sizeLine ∧ Q (.str (cutS z l u)) H3
theorem pe_sliceS (he : PE X e te) (hl : PO X lo tl) (hu : PO X hi th) : PE X (.Subscript e (.Slice lo hi none p2) pos) (tSlS te tl th) := by
  intro pins s σ H Q I h
  refine Subscript_ (thn (he pins s σ H _ I h) fun v s1 ⟨x, H1, I1, r1, q1⟩ => ?_)
  refine wpAny_Slice (thn (hl pins s1 σ H1 _ I1 q1) fun vl s2 ⟨l, H2, I2, pl, q2⟩ => thn (hu pins s2 σ H2 _ I2 q2) fun vu s3 ⟨u, H3, I3, pu, q3⟩ => ?_)
  rw [evalPart_none]
  refine wpAny_pure ?_
  obtain ⟨z, rfl, hz, q⟩ := q3
  obtain ⟨t, rfl⟩ := r1
  have hk : KeptH (fun h => ∀ b o, s3.heap.get? b = some o → h.get? b = some o) := fun h ob hP b o q => Heap.get?_push_of_some _ (hP b o q)
  have fin : ∀ h' t' k, (∀ b o, s3.heap.get? b = some o → h'.get? b = some o) → EP X pins σ Q (.str (Txt.slice z l u) t') { s3 with heap := h', toks := k } := fun h' t' k hP => by
    refine ⟨.str (cutS z l u), H3, I3.kept hP, ⟨t', ?_⟩, q⟩
    rw [txt_slice]; rfl
  have go : ItemOn (model X.prog X.w) X.A X.xe (.str z t) (.ref s3.heap.objs.size) (EP X pins σ Q) { s3 with heap := s3.heap.push { cls := .type "slice", data := .fields #[vl, vu, .none] } } := by
    cases pl with
    | none =>
      cases pu with
      | none => exact SBH.sliceItem_nn hk (fun _ _ q => q) fin hz
      | int j uj => exact SBH.sliceItem_ns hk (fun _ _ q => q) fin hz
    | int i ui =>
      cases pu with
      | none => exact SBH.sliceItem_sn hk (fun _ _ q => q) fin hz
      | int j uj => exact SBH.sliceItem_ss hk (fun _ _ q => q) fin hz
  obtain ⟨T, id, hT, ht, hg⟩ := go
  exact tail_any (ops := [.ref s3.heap.objs.size, .str z t]) ht hT hg (by with_unfolding_all rfl)
end
section
variable {X : Cx}
theorem call_all (hc : X.calm = true) : CallR X (.builtin "all") (fun xs H Q => ∃ (p : Addr) (bs : List Bool), xs = [.ref p] ∧ SqL X.K H p (bs.map V.bl) ∧ Q (.bl (bs.all id)) H) := by
  intro pins s σ H xs us Q I r h
  obtain ⟨p, bs, rfl, hq, q⟩ := h
  obtain ⟨u, rfl, ru⟩ := vals1 r
  cases ru
  obtain ⟨its, rv, pl, hz⟩ := I.list hq
  have hp : p ≠ s.heap.objs.size := by
    obtain ⟨o, n, e, _⟩ := pl
    exact Nat.ne_of_lt (Heap.lt_size e)
  have vget : ∀ (i : Nat) (v : Value), its.toArray[i]? = some v → v = .bool (bs.getD i false) := fun i v e => by
    have e' : its[i]? = some v := by simpa using e
    have hl := rv.length
    have hi : i < bs.length := by
      have := (List.getElem?_eq_some_iff.mp e').1
      simp at hl; omega
    obtain ⟨u, e1, e2⟩ := rv.get (i := i) (x := .bl (bs.getD i false)) (by rw [List.getElem?_map]; simp [hi])
    rw [e'] at e1
    cases e1
    exact e2
  refine call_all_walk (wpAny_pyIter_list pl.isList ?_)
  refine ⟨s.heap.objs.size, _, _, its.toArray.size, _, _, fun i => bs.getD i false, rfl, Walks.list (A := X.A.in1) (I.ok.hd hc) _ p hp its.toArray, ⟨⟨_, Heap.get?_push_size _ rfl, rfl, rfl⟩, ?_⟩, fun i v s' Q' E' hv hQ => ?_, fun h' tk hk => ?_⟩
  · exact pl.isList.at fun o e => Heap.get?_push_of_some _ e
  · rw [vget i v hv]; exact wpAny_truthy_bool hQ
  · refine ⟨.bl (bs.all id), H, I.kept (t' := tk) (h' := h') fun b o e => hk b o (fun z => ?_) (Heap.get?_push_of_some _ e), ?_, q⟩
    · have : b = s.heap.objs.size := by simpa using z
      exact absurd (Heap.lt_size e) (by rw [this]; exact Nat.lt_irrefl _)
    · have hl := rv.length
      have hsz : its.toArray.size = bs.length := by simp at hl; simp [hl]
      have : (List.range its.toArray.size).all (fun i => bs.getD i false) = bs.all id := by
        rw [hsz]
        rw [Bool.eq_iff_iff]
        simp only [List.all_eq_true, List.mem_range, id]
        constructor
        · intro h b hb
          obtain ⟨i, hi, e⟩ := List.getElem_of_mem hb
          have := h i hi
          simpa [hi, e] using this
        · intro h i hi
          have := h bs[i] (List.getElem_mem hi)
          simpa [hi] using this
      rw [this]; rfl
theorem preSum_take (ns : List Int) : ∀ k, k ≤ ns.length → preSum (fun i => ns.getD i 0) k = (ns.take k).sum
  | 0, _ => by simp [preSum]
  | k + 1, h => by
    show preSum (fun i => ns.getD i 0) k + ns.getD k 0 = _
    have hk : k < ns.length := h
    rw [preSum_take ns k (by omega), List.take_succ_eq_append_getElem hk, List.sum_append]
    simp [hk]
def vvObj (d : Addr) : Obj := { cls := .type "dict_values", data := .fields #[.ref d] }
def VLS (p d : Addr) : HO := .ext fun h => h.get? p = some (vvObj d)
def rValues : V → List V → Hp → VK → Prop := fun x vs H Q => ∃ d kvs, x = .ref d ∧ vs = [] ∧ H d = some (.dK kvs) ∧ ∀ p, H p = none → Q (.ref p) (upd H p (VLS p d))
theorem mt_values : MtM X "dict.values" rValues := by
  intro pins s σ H x vs v us Q I rx rv h
  obtain ⟨d, kvs, rfl, rfl, hd, q⟩ := h
  cases rx
  have hus := rv.zero
  subst hus
  obtain ⟨z, hm, ws, rel, dd⟩ := dk_of I.hok hd
  refine call_meetsIn PySem.F.slot_dict_values dd.typeIs PySem.F.entry_dict_values (PySem.F.args_dict_values_1 _) (meets_dict_values (mixKind X.prog X.w) d hm) ⟨⟨_, dd⟩, ?_⟩
  refine ⟨.ref s.heap.objs.size, _, I.laid (t' := s.toks) (o := VLS s.heap.objs.size d) (fun b o e => Heap.get?_push_of_some _ e) (Nat.le_refl _) ?_, rfl, q _ (I.hok.fresh (Nat.le_refl _))⟩
  exact ⟨Heap.get?_push_size _ rfl, ⟨_, Heap.get?_push_size _ rfl⟩, fun h1 h2 e k => k _ e⟩
theorem call_sumVals (hc : X.calm = true) : CallR X (.builtin "sum") (fun xs H Q => ∃ (p d : Addr) (kns : List (Key × Int)), xs = [.ref p] ∧ H p = some (VLS p d) ∧ H d = some (.dK (kns.map fun q => (q.1, V.int q.2))) ∧ Q (.int (kns.map (·.2)).sum) H) := by
  intro pins s σ H xs us Q I r h
  obtain ⟨p, d, kns, rfl, hp, hd, q⟩ := h
  obtain ⟨u, rfl, ru⟩ := vals1 r
  cases ru
  obtain ⟨z, hm, ws, rel, dd⟩ := dk_of I.hok hd
  obtain ⟨hv, _, _⟩ := I.hok p _ hp
  obtain ⟨ep, hat⟩ := dd.dictAt
  have hlen : ws.length = kns.length := by have := rel.length; simpa using this.symm
  have hwi : ∀ (i : Nat) (v : Value), (∃ k, ws[i]? = some (k, v)) → ∃ t, v = Value.int ((kns.map (·.2)).getD i 0) t := fun i v ⟨k, e⟩ => by
    obtain ⟨x, e1, e2⟩ := KV.get rel e
    rw [List.getElem?_map] at e1
    cases g : kns[i]? with
    | none => rw [g] at e1; cases e1
    | some q' =>
      rw [g] at e1
      have e1' : (q'.1, V.int q'.2) = (k, x) := Option.some.inj e1
      have : x = V.int q'.2 := (Prod.mk.inj e1').2.symm
      subst this
      obtain ⟨t, rfl⟩ := e2
      refine ⟨t, ?_⟩
      have : (kns.map (·.2)).getD i 0 = q'.2 := by rw [List.getD_eq_getElem?_getD, List.getElem?_map, g]; rfl
      rw [this]
  have Ks := PySem.W.kdl_values (knd := mixKind X.prog X.w) (kvs := ws) (ep := ep) (r := p) (d := d)
  obtain ⟨oI, St, hit, W, st⟩ := Ks.iter X.A.in1 s (I.ok.hd hc) ⟨⟨_, hv, rfl, rfl⟩, hat⟩
  have hth := Ks.there s.heap ⟨⟨_, hv, rfl, rfl⟩, hat⟩
  refine call_sum_walkAnyS (hit _ _ ⟨s.heap.objs.size, _, _, _, ws.length, _, _, fun i => (kns.map (·.2)).getD i 0, rfl, W.toS, st, fun b hb => ?_, hwi, fun s' t' hm => ?_⟩)
  · show b < (s.heap.push oI).objs.size
    rw [size_push']
    rcases List.mem_cons.mp hb with e | hb
    · rw [e]; exact Nat.lt_succ_self _
    · rw [List.mem_singleton.mp hb]; exact Nat.lt_succ_of_lt hth.2
  have hk : ∀ b o, s.heap.get? b = some o → s'.heap.get? b = some o := fun b o e =>
    hm.heap b o (fun hI => absurd (Heap.lt_size e) (by rw [List.mem_singleton.mp hI]; exact Nat.lt_irrefl _)) (Heap.get?_push_of_some _ e)
  rw [Moved.eq_with hm]
  refine ⟨.int (kns.map (·.2)).sum, H, I.kept (h' := s'.heap) (t' := s'.toks) hk, ⟨t', ?_⟩, q⟩
  rw [hlen, ← List.length_map (f := (·.2)) (as := kns), preSum_take _ _ (Nat.le_refl _), List.take_length]
end
end L2
end
section
set_option Elab.async false
set_option linter.all false
set_option maxRecDepth 100000
set_option maxHeartbeats 1000000
namespace L2
open PySem PySem.Spec PyProof.Rows
section
variable {X : Cx}
theorem call_isinst : CallR X (.builtin "isinstance") (fun xs H Q => ∃ x c t b, xs = [x, .ty c] ∧ TyOf X.K H x t ∧ PySem.W.kitOne X.K t (.type c) = some b ∧ Q (.bl b) H) := by
  intro pins s σ H xs us Q I r h
  obtain ⟨x, c, t, b, rfl, ty, e, q⟩ := h
  obtain ⟨u, w', rfl, rx, rc⟩ := vals2 r
  cases rc
  exact isinst_ok I rx ty e fun tk => ⟨.bl b, H, I.tok tk, rfl, q⟩
theorem strs_of {ss : List Str} : ∀ {us : List Value}, Vals (ss.map V.str) us → StrsAre us ss := by
  induction ss with
  | nil => intro us r; rw [List.map_nil] at r; cases r; exact .nil
  | cons x ss ih =>
    intro us r
    rw [List.map_cons] at r
    cases r with
    | cons r1 r2 =>
      obtain ⟨t, e⟩ := r1
      subst e
      exact .cons x t (ih r2)
def rJoin (K : PySem.W.Frag) : V → List V → Hp → VK → Prop := fun x vs H Q => ∃ (sep : Str) (l : Addr) (ss : List Str), x = .str sep ∧ vs = [.ref l] ∧ SqL K H l (ss.map V.str) ∧ (ss.map (·.length)).sum + ss.length * sep.length ≤ 16777216 ∧ Q (.str (Txt.join sep ss)) H
theorem mt_join : MtR X "str.join" (rJoin X.K) := by
  intro pins s σ H x vs v us Q I rx rv h
  obtain ⟨sep, l, ss, rfl, rfl, hq, hz, q⟩ := h
  obtain ⟨t, rfl⟩ := rx
  obtain ⟨u, rfl, ru⟩ := vals1 rv
  cases ru
  obtain ⟨its, r', pl, _⟩ := I.list hq
  exact join_list pl.isList (by simpa using strs_of r') hz fun t' k => ⟨.str (Txt.join sep ss), H, I.tok k, ⟨t', rfl⟩, q⟩
theorem foldl_app (l : List Str) : ∀ a : Array Nat, (l.foldl (fun acc p => acc ++ (⟨#[]⟩ : Str).cps ++ p.cps) a).toList = a.toList ++ (l.map (·.cps.toList)).flatten := by
  induction l with
  | nil => intro a; simp
  | cons x r ih => intro a; rw [List.foldl_cons, ih]; simp
theorem join_flat (ss : List Str) : Txt.join ⟨#[]⟩ ss = ⟨(ss.map (·.cps.toList)).flatten.toArray⟩ := by
  apply MyS.Str_ext
  show ((ss.drop 1).foldl (fun acc p => acc ++ (⟨#[]⟩ : Str).cps ++ p.cps) (ss.headD Str.empty).cps).toList = (ss.map (·.cps.toList)).flatten.toArray.toList
  rw [foldl_app]
  cases ss with
  | nil => rfl
  | cons x r => simp
def rSetD : V → List V → Hp → VK → Prop := fun x vs H Q => ∃ d kvs k v, x = .ref d ∧ vs = [kV k, v] ∧ H d = some (.dK kvs) ∧ kvs.length < sizeLine ∧ (∀ y, valV kvs k = some y → Q y H) ∧ (valV kvs k = none → Q v (upd H d (.dK (putK kvs k v))))
theorem mt_setdefault : MtM X "dict.setdefault" rSetD := by
  intro pins s σ H x vs v us Q I rx rv h
  obtain ⟨d, kvs, k, y, rfl, rfl, hd, hz, q1, q2⟩ := h
  cases rx
  obtain ⟨u, w', rfl, ru, rw'⟩ := vals2 rv
  obtain ⟨z, hm, ws, rel, dd⟩ := dk_of I.hok hd
  have hwz : ws.length ≤ sizeLine := by rw [← rel.length]; exact z
  refine call_meetsIn PySem.F.slot_dict_setdefault dd.typeIs PySem.F.entry_dict_setdefault (PySem.F.args_dict_setdefault_3 _ _ _) (kt_meets_setdefault (mixKind X.prog X.w) d (kV_is ru) hm w') ⟨ws, dd, hwz, fun v' hv => ?_, fun hn h' dd' hs => ?_⟩
  · have rr := rel.val k
    rw [hv] at rr
    cases e : valV kvs k with
    | none => rw [e] at rr; exact rr.elim
    | some y' =>
      rw [e] at rr
      exact ⟨y', H, I.tok _, rr, q1 y' e⟩
  · have rr := rel.val k
    rw [hn] at rr
    cases e : valV kvs k with
    | some y' => rw [e] at rr; exact rr.elim
    | none =>
      have he : ∃ q, h'.get? d = some q := let ⟨q, _, _, hq, _⟩ := dd'; ⟨q, hq⟩
      have hl : (putK kvs k y).length ≤ sizeLine := by have := length_putK kvs k y; omega
      exact ⟨y, _, d_write I (by rw [hd]; exact True.intro) hs he (dk_new hl hm (rel.put k rw') dd'), rw', q2 e⟩
def rSortedD : List V → Hp → VK → Prop := fun xs H Q => ∃ d kvs, xs = [.ref d] ∧ H d = some (.dK (encK kvs)) ∧ (kvs.map (·.1)).Nodup ∧ kvs.length < 64 ∧
  ∀ (out : List Str) (l : Addr), out.Perm (kvs.map (·.1)) → out.Pairwise (fun a b => a.cps.toList < b.cps.toList) → H l = none → Q (.ref l) (upd H l (.lst (out.map V.str)))
theorem op_catT0 : OpR X (binaryOp .Add) (fun x y H Q => ∃ a b ys, x = .ref a ∧ y = .ref b ∧ SqT X.K H a [] ∧ SqT X.K H b ys ∧ Q (.ref b) H) := by
  intro pins s σ H x y v u Q I rx ry h
  obtain ⟨a, b, ys, rfl, rfl, ha, hb, q⟩ := h
  cases rx
  cases ry
  obtain ⟨its, r1, p1, _⟩ := I.tuple ha
  obtain ⟨its2, r2, p2, _⟩ := I.tuple hb
  have e0 : its = [] := by cases r1; rfl
  subst e0
  obtain ⟨⟨cls, dd, data, sl⟩, ho, hc, n, hd⟩ := id p1
  obtain ⟨⟨cls2, dd2, data2, sl2⟩, ho2, hc2, n2, hd2⟩ := id p2
  simp only at hc hd hc2 hd2
  subst hc hd hc2 hd2
  exact concat_meets ⟨_, ho, rfl⟩ ⟨_, ho2, rfl⟩ noFill_tuple_add seq_tuple_add PySem.F.slot_tuple_add PySem.F.entry_tuple_add (PySem.F.args_tuple_add_2 _ _)
    (tuple_addW0 a b _ its2.toArray n n2 dd dd2 sl sl2 (by simp)) ⟨ho, ho2, ⟨.ref b, H, I, rfl, q⟩⟩
end
section
variable {prog : Program} {w : World} {A : Around} {E : Value → Shared → Prop} {s : Shared}
theorem sliceApplied_rev {sl : Addr} {n : Nat} {tk : Tok} {Q : Int × Int × Nat → Shared → Prop} (hs : s.heap.IsSliceOf sl .none .none (.int (-1) tk)) (h : Q ((n : Int) - 1, -1, n) s) :
    wpAny (model prog w) A (Builtin.Slice.sliceApplied (.ref sl) (pure (n : Int))) Q E s := by
  obtain ⟨os, hos, hcs, hds⟩ := id hs
  unfold Builtin.Slice.sliceApplied Builtin.Slice.sliceFields
  refine wpAny_bind (wpAny_bind (wpAny_field hos hds (x := .none) rfl (wpAny_bind (wpAny_field hos hds (x := .none) rfl (wpAny_bind (wpAny_field hos hds (x := .int (-1) tk) rfl (wpAny_pure ?_)))))))
  refine wpAny_bind (slicePart_int ?_)
  show wpAny _ _ (if ((-1 : Int) == 0) = true then _ else _) _ _ s
  rw [if_neg (by decide)]
  refine wpAny_bind (slicePart_none (wpAny_bind (slicePart_none (wpAny_bind (wpAny_pure ?_)))))
  show wpAny _ _ (pure ((n : Int) - 1, (-1 : Int), Builtin.Slice.slicePlaces ((n : Int) - 1) (-1) (-1))) _ _ s
  have e : Builtin.Slice.slicePlaces ((n : Int) - 1) (-1) (-1) = n := by
    unfold Builtin.Slice.slicePlaces
    rw [if_neg (by decide)]
    by_cases hn : (n : Int) - 1 > -1
    · rw [if_pos hn, show (-(-1) : Int) = 1 from rfl, Int.ediv_one]
      omega
    · rw [if_neg hn]; omega
  rw [e]
  exact wpAny_pure h
theorem pick_rev (xs : Array Value) : ((List.range xs.size).filterMap fun (m : Nat) => xs[((xs.size : Int) - 1 + (m : Int) * (-1)).toNat]?).toArray = xs.toList.reverse.toArray := by
  congr 1
  apply List.ext_getElem?
  intro i
  have key : (List.range xs.size).filterMap (fun (m : Nat) => xs[((xs.size : Int) - 1 + (m : Int) * (-1)).toNat]?) = (List.range xs.size).map fun m => (xs[xs.size - 1 - m]?).getD Value.none := by
    have go : ∀ l : List Nat, (∀ m ∈ l, m < xs.size) → l.filterMap (fun (m : Nat) => xs[((xs.size : Int) - 1 + (m : Int) * (-1)).toNat]?) = l.map fun m => (xs[xs.size - 1 - m]?).getD Value.none := by
      intro l
      induction l with
      | nil => intro _; rfl
      | cons m l ih =>
        intro hl
        have hm' := hl m (List.mem_cons_self ..)
        have e : ((xs.size : Int) - 1 + (m : Int) * (-1)).toNat = xs.size - 1 - m := by omega
        have hlt : xs.size - 1 - m < xs.size := by omega
        have e2 : xs[xs.size - 1 - m]? = some xs[xs.size - 1 - m] := by simp [hlt]
        rw [List.filterMap_cons, e, e2, List.map_cons, ih fun j hj => hl j (List.mem_cons_of_mem _ hj), e2]
        rfl
    exact go _ fun m hm => List.mem_range.mp hm
  rw [key, List.getElem?_map]
  by_cases hi : i < xs.size
  · rw [List.getElem?_range hi, List.getElem?_reverse (by simpa using hi)]
    have hlt : xs.size - 1 - i < xs.size := by omega
    simp [hlt]
  · rw [List.getElem?_eq_none (by simpa using hi), List.getElem?_eq_none (by simpa using hi)]
    rfl
theorem getItem_tuple_rev {t sl : Addr} {items : Array Value} {tk : Tok} {Q : Value → Shared → Prop} (ht : IsTup s.heap t items) (hs : s.heap.IsSliceOf sl .none .none (.int (-1) tk))
    (h : Q (.ref s.heap.objs.size) { s with heap := s.heap.push { cls := .type "tuple", data := .seq items.toList.reverse.toArray } }) (hsz : items.size ≤ sizeLine) : wpAny (model prog w) A (getItem (.ref t) (.ref sl)) Q E s := by
  have htake : sizeOk (.seq items.toList.reverse.toArray) := by
    show items.toList.reverse.toArray.size ≤ sizeLine
    simpa using hsz
  obtain ⟨os, hos, hcs, hds⟩ := id hs
  have hTs : s.TypeIs (.ref sl) "slice" := ⟨os, hos, hcs⟩
  unfold getItem
  try with_reducible refine wpAny_holding ?_
  first | refine wpAny_bind (wpAny_pure ?_) | skip
  refine wpAny_bind (wpAny_sequenceKey ht.typeIs (by decide) ?_)
  refine wpAny_bind (wpAny_callSpecial?_slot (name := Str.ofString "__getitem__") ht.typeIs PyProof.Rows.slot_tuple_getitem (wpAny_call_entry PyProof.Rows.slot_tuple_getitem ht.typeIs entry_tuple_getitem ?_ (args_tuple_getitem _ _)))
  show wpAny _ _ (Builtin.Tuple.tupleItemsOf (.ref t) >>= _) _ _ s
  refine wpAny_bind (tupleItemsOf_ ht (wpAny_bind (wpAny_typeOf hTs ?_)))
  rw [if_pos (by decide)]
  refine wpAny_bind (sliceApplied_rev hs ?_)
  show wpAny _ _ (if (((items.size : Int) - 1 == 0) && ((-1 : Int) == 1) && (items.size == items.size)) = true then _ else _) _ _ s
  rw [if_neg (by simp), pick_rev]
  first
    | exact wpAny_bind (m := Builtin.Tuple.tupleExact _) (wpAny_newObj_type (wpAny_pure ⟨_, rfl, wpAny_pure h⟩) htake)
    | exact wpAny_bind (m := Builtin.Tuple.tupleExact _) (wpAny_newObj_type (wpAny_bind (wpAny_pure (wpAny_pure ⟨_, rfl, wpAny_pure h⟩))) htake)
    | exact wpAny_bind (wpAny_bind (m := Builtin.Tuple.tupleExact _) (wpAny_newObj_type (wpAny_pure (wpAny_pure ⟨_, rfl, wpAny_pure h⟩)) htake))
    | exact wpAny_bind (wpAny_bind (m := Builtin.Tuple.tupleExact _) (wpAny_newObj_type (wpAny_pure ⟨_, rfl, wpAny_pure h⟩) htake))
end
theorem Vals.rev {xs : List V} {us : List Value} (r : Vals xs us) : Vals xs.reverse us.reverse := by
  unfold Vals at r
  induction r with
  | nil => exact .nil
  | cons h _ ih => rw [List.reverse_cons, List.reverse_cons]; exact Vals.append ih (.cons h .nil)
section
variable {X : Cx} {e st : Expr} {te ts : TE} {pos p2 : Pos}
def tRevT (K : PySem.W.Frag) (te ts : TE) : TE := fun σ H Q => te σ H fun x H1 => ts σ H1 fun y H2 => ∃ a xs, x = .ref a ∧ y = .int (-1) ∧ SqT K H2 a xs ∧ ∀ p, H2 p = none → Q (.ref p) (upd H2 p (.tup xs.reverse))
theorem pe_revT (he : PE X e te) (hs : PE X st ts) : PE X (.Subscript e (.Slice none none (some st) p2) pos) (tRevT X.K te ts) := by
  intro pins s σ H Q I h
  refine Subscript_ (thn (he pins s σ H _ I h) fun v s1 ⟨x, H1, I1, r1, q1⟩ => ?_)
  refine wpAny_Slice ?_
  rw [evalPart_none]
  refine wpAny_pure (wpAny_pure ?_)
  rw [evalPart_some]
  refine thn (hs pins s1 σ H1 _ I1 q1) fun u s3 ⟨y, H3, I3, r3, q3⟩ => ?_
  obtain ⟨a, xs, rfl, rfl, hx, q⟩ := q3
  cases r1
  obtain ⟨tk, rfl⟩ := r3
  have I4 : Inv X pins σ H3 { s3 with heap := s3.heap.push { cls := .type "slice", data := .fields #[.none, .none, .int (-1) tk] } } := I3.kept (t' := s3.toks) fun b ob q => Heap.get?_push_of_some _ q
  obtain ⟨its, r, ht, hz⟩ := I4.tuple hx
  have hlen : its.toArray.size = xs.length := by rw [List.size_toArray]; exact r.length.symm
  show wpAny (model X.prog X.w) X.A (subscriptTail e (.Slice none none (some st) p2) (.ref a) (.ref s3.heap.objs.size)) (EP X pins σ Q) X.xe { s3 with heap := s3.heap.push { cls := .type "slice", data := .fields #[.none, .none, .int (-1) tk] } }
  refine tail_any (ops := [.ref a, .ref s3.heap.objs.size]) ht.typeIs PyProof.Rows.slot_tuple_getitem.lookup (getItem_tuple_rev ht (Heap.IsSliceOf.new ..) ?_ (by rw [hlen]; exact hz)) (by with_unfolding_all rfl)
  refine ⟨.ref _, _, I4.laid (t' := s3.toks) (o := .tup xs.reverse) (fun b ob q => Heap.get?_push_of_some _ q) (Nat.le_refl _) ?_, rfl, q _ (I4.hok.fresh (Nat.le_refl _))⟩
  exact ⟨by rw [List.length_reverse]; exact hz, its.reverse, r.rev, IsTup.new _ _⟩
end
end L2
end
section
set_option Elab.async false
set_option linter.all false
set_option maxRecDepth 100000
set_option maxHeartbeats 1000000
namespace L2
open PySem PySem.Spec PyProof.Rows
structure Known (J : It) (items : List V) (Hk : Hp → Prop) : Prop where
  go : ∀ i H, Hk H → i < items.length → J.go i H
  yld : ∀ i H x H', Hk H → J.yld i H x H' → H' = H ∧ (i < items.length → items[i]? = some x)
  stop : ∀ H, Hk H → J.stop items.length H
theorem known_range (lo : Int) (n : Nat) : Known (Itr lo n) ((List.range n).map fun (i : Nat) => V.int (lo + (i : Int))) (fun _ => True) :=
  ⟨fun i H _ h => by show i < n; simpa using h, fun i H x H' _ h => ⟨h.1, fun hi => by
    have hi' : i < n := by simpa using hi
    rw [List.getElem?_map, List.getElem?_range hi', h.2]; rfl⟩, fun H _ => by show n ≤ _; simp⟩
theorem known_list (K : PySem.W.Frag) (a : Addr) (xs : List V) : Known (Itl K a) xs (fun H => SqL K H a xs) :=
  ⟨fun i H h hi => ⟨xs, xs[i], h, List.getElem?_eq_getElem hi⟩, fun i H x H' h y => ⟨y.1, fun _ => y.2 xs h⟩, fun H h => ⟨xs, h, Nat.le_refl _⟩⟩
theorem known_tup (K : PySem.W.Frag) (a : Addr) (xs : List V) : Known (Itt K a) xs (fun H => SqT K H a xs) :=
  ⟨fun i H h hi => ⟨xs, xs[i], h, List.getElem?_eq_getElem hi⟩, fun i H x H' h y => ⟨y.1, fun _ => y.2 xs h⟩, fun H h => ⟨xs, h, Nat.le_refl _⟩⟩
theorem known_str (z : Str) : Known (Its z) (z.cps.toList.map fun c => V.str ⟨#[c]⟩) (fun _ => True) :=
  ⟨fun i H _ h => by show i < z.cps.size; simpa using h, fun i H x H' _ h => ⟨h.1, fun _ => by
    obtain ⟨c, e1, e2⟩ := h.2
    rw [List.getElem?_map, Array.getElem?_toList, e1, e2]; rfl⟩, fun H _ => by show _ = z.cps.size; simp⟩
theorem comp_known {J : It} {items : List V} {Hk : Hp → Prop} (kn : Known J items Hk) {caps : List Nat} {n : Nat} {σ : St} {g : TG} {tc : TT} {te : TE} {F : List V → Hp → Prop} {H1 : Hp} (cv : St) (k : Nat) (hn : items.length < 1000)
    (Pv : Nat → List V → Hp → Prop) (h0 : Pv 0 [] H1) (hk : ∀ i acc H, i ≤ items.length → Pv i acc H → Hk H ∧ acc.length ≤ i)
    (turn : ∀ (i : Nat) (x : V) (acc : List V) (H : Hp) (ys : St) (Nx : List V → St → Hp → Prop), (∀ acc' H' zs, zs.length = k → Pv (i + 1) acc' H' → Nx acc' (cv ++ zs) H') → items[i]? = some x → ys.length = k → Pv i acc H →
      g x (cv ++ ys) H fun σ2 H3 => tc σ2 H3 fun b H4 => if b = true then te σ2 H4 fun y H5 => Nx (acc ++ [y]) σ2 H5 else Nx acc σ2 H4)
    (fin : ∀ acc H, Pv items.length acc H → F acc H) (hcv : capStart caps n σ = cv ++ List.replicate k none := by rfl) :
    ∃ W : Nat → Nat → List V → St → Hp → Prop, (∃ m, W 0 m [] (capStart caps n σ) H1) ∧ ∀ i m acc σ' H', W i m acc σ' H' →
      (J.stop i H' ∧ F acc H') ∨
      (J.go i H' ∧ acc.length < sizeLine ∧ ∀ x H2, J.yld i H' x H2 → g x σ' H2 fun σ2 H3 => tc σ2 H3 fun b H4 => if b = true then te σ2 H4 fun y H5 => ∃ m', m' < m ∧ W (i + 1) m' (acc ++ [y]) σ2 H5 else ∃ m', m' < m ∧ W (i + 1) m' acc σ2 H4) := by
  refine ⟨fun i m acc σ' H' => i ≤ items.length ∧ m = items.length - i ∧ (∃ ys, ys.length = k ∧ σ' = cv ++ ys) ∧ Pv i acc H', ⟨items.length, Nat.zero_le _, rfl, ⟨_, by simp, hcv⟩, h0⟩, ?_⟩
  rintro i m acc σ' H' ⟨hi, rfl, ⟨ys, hy, rfl⟩, pv⟩
  obtain ⟨hH, ha⟩ := hk i acc H' hi pv
  by_cases e : i = items.length
  · subst e
    exact .inl ⟨kn.stop H' hH, fin acc H' pv⟩
  · have hi' : i < items.length := by omega
    refine .inr ⟨kn.go i H' hH hi', by rw [sizeLine_eq]; omega, fun x H2 hy2 => ?_⟩
    obtain ⟨e2, e3⟩ := kn.yld i H' x H2 hH hy2
    subst e2
    exact turn i x acc H2 ys (fun acc' σ2 H5 => ∃ m', m' < items.length - i ∧ (i + 1 ≤ items.length ∧ m' = items.length - (i + 1) ∧ (∃ ys, ys.length = k ∧ σ2 = cv ++ ys) ∧ Pv (i + 1) acc' H5)) (fun acc' H5 zs hz p => ⟨items.length - (i + 1), by omega, by omega, rfl, ⟨zs, hz, rfl⟩, p⟩) (e3 hi') hy pv
theorem comp_known0 {J : It} {items : List V} {Hk : Hp → Prop} (kn : Known J items Hk) {caps : List Nat} {n : Nat} {σ : St} {g : TG} {te : TE} {F : List V → Hp → Prop} {H1 : Hp} (cv : St) (k : Nat) (hn : items.length < 1000)
    (Pv : Nat → List V → Hp → Prop) (h0 : Pv 0 [] H1) (hk : ∀ i acc H, i ≤ items.length → Pv i acc H → Hk H ∧ acc.length ≤ i)
    (turn : ∀ (i : Nat) (x : V) (acc : List V) (H : Hp) (ys : St) (Nx : List V → St → Hp → Prop), (∀ acc' H' zs, zs.length = k → Pv (i + 1) acc' H' → Nx acc' (cv ++ zs) H') → items[i]? = some x → ys.length = k → Pv i acc H →
      g x (cv ++ ys) H fun σ2 H3 => te σ2 H3 fun y H5 => Nx (acc ++ [y]) σ2 H5)
    (fin : ∀ acc H, Pv items.length acc H → F acc H) (hcv : capStart caps n σ = cv ++ List.replicate k none := by rfl) :
    ∃ W : Nat → Nat → List V → St → Hp → Prop, (∃ m, W 0 m [] (capStart caps n σ) H1) ∧ ∀ i m acc σ' H', W i m acc σ' H' →
      (J.stop i H' ∧ F acc H') ∨
      (J.go i H' ∧ acc.length < sizeLine ∧ ∀ x H2, J.yld i H' x H2 → g x σ' H2 fun σ2 H3 => tYes σ2 H3 fun b H4 => if b = true then te σ2 H4 fun y H5 => ∃ m', m' < m ∧ W (i + 1) m' (acc ++ [y]) σ2 H5 else ∃ m', m' < m ∧ W (i + 1) m' acc σ2 H4) := by
  refine comp_known kn cv k hn Pv h0 hk (fun i x acc H ys Nx hN hx hy p => ?_) fin hcv
  have := turn i x acc H ys Nx hN hx hy p
  have e : (fun (σ2 : St) (H3 : Hp) => tYes σ2 H3 fun b H4 => if b = true then te σ2 H4 fun y H5 => Nx (acc ++ [y]) σ2 H5 else Nx acc σ2 H4) = fun σ2 H3 => te σ2 H3 fun y H5 => Nx (acc ++ [y]) σ2 H5 := by
    funext σ2 H3
    unfold tYes
    exact if_pos rfl
  rw [e]
  exact this
theorem for_known {J : It} {items : List V} {Hk : Hp → Prop} (kn : Known J items Hk) {g : TG} {tb : TS} {D : Ends} {σ : St} {H : Hp} (Pv : Nat → St → Hp → Prop) (h0 : Pv 0 σ H) (hk : ∀ i σ H, i ≤ items.length → Pv i σ H → Hk H)
    (turn : ∀ (i : Nat) (x : V) (σ : St) (H : Hp) (Nx : St → Hp → Prop), (∀ σ' H', Pv (i + 1) σ' H' → Nx σ' H') → items[i]? = some x → Pv i σ H → g x σ H fun σ2 H2 => tb { D with nx := Nx, ct := Nx, bk := D.nx } σ2 H2)
    (fin : ∀ σ H, Pv items.length σ H → D.nx σ H) :
    ∃ W : Nat → Nat → St → Hp → Prop, (∃ m, W 0 m σ H) ∧ ∀ i m σ H, W i m σ H →
      (J.stop i H ∧ D.nx σ H) ∨ (J.go i H ∧ ∃ N : St → Hp → Prop, (∀ σ' H', N σ' H' → ∃ m', m' < m ∧ W (i + 1) m' σ' H') ∧ ∀ x H', J.yld i H x H' → g x σ H' fun σ2 H2 => tb { D with nx := N, ct := N, bk := D.nx } σ2 H2) := by
  refine ⟨fun i m σ H => i ≤ items.length ∧ m = items.length - i ∧ Pv i σ H, ⟨items.length, Nat.zero_le _, rfl, h0⟩, ?_⟩
  rintro i m σ H ⟨hi, rfl, pv⟩
  have hH := hk i σ H hi pv
  by_cases e : i = items.length
  · subst e
    exact .inl ⟨kn.stop H hH, fin σ H pv⟩
  · have hi' : i < items.length := by omega
    refine .inr ⟨kn.go i H hH hi', Pv (i + 1), fun σ' H' p => ⟨items.length - (i + 1), by omega, by omega, rfl, p⟩, fun x H2 hy2 => ?_⟩
    obtain ⟨e2, e3⟩ := kn.yld i H x H2 hH hy2
    subst e2
    exact turn i x σ H2 (Pv (i + 1)) (fun _ _ p => p) (e3 hi') pv
theorem iteD {c A B : Prop} [Decidable c] (hc : c) (h : A) : if decide c = true then A else B := by
  rw [if_pos (decide_eq_true hc)]; exact h
theorem iteDF {c A B : Prop} [Decidable c] (hc : ¬ c) (h : B) : if decide c = true then A else B := by
  rw [if_neg (fun z => hc (of_decide_eq_true z))]; exact h
theorem Same.upd_new {H H' : Hp} {a : Addr} {o : HO} (e : Same H H') (h : H a = none) : Same H (upd H' a o) := fun b u q => by
  rw [upd_ne (ne_of_none q h)]; exact e b u q
theorem Same.upd1 {H : Hp} {a : Addr} {o : HO} (h : H a = none) : Same H (upd H a o) := (Same.refl H).upd_new h
def capOk (sc : Scope) (XN N : List Str) (scope : Scope) : Nat → List Nat → Bool
  | _, [] => true
  | i, c :: cs => (match N[i]? with
    | some x => decide (XN[c]? = some x) && decide (scope.names.lookup x = some .free) && (decide (sc.names.lookup x = some .cell) || decide (sc.names.lookup x = some .free))
    | none => false) && capOk sc XN N scope (i + 1) cs
def compOk (sc : Scope) (XN N : List Str) (scope : Scope) (caps : List Nat) : Bool :=
  decide (scope.kind = .function) && decide N.Nodup && scope.names.all (fun y => decide (y.2 ≠ .cell)) && scope.names.all (fun y => decide (y.2 = .local → scope.names.lookup y.1 = some .local)) &&
  scope.names.all (fun y => decide (y.2 = .free → sc.names.lookup y.1 = some .cell ∨ sc.names.lookup y.1 = some .free)) && capOk sc XN N scope 0 caps && decide (caps.length ≤ N.length)
theorem capOk_get {sc : Scope} {XN N : List Str} {scope : Scope} : ∀ {caps : List Nat} {j : Nat}, capOk sc XN N scope j caps = true → ∀ i, i < caps.length →
    ∃ x, N[j + i]? = some x ∧ XN[caps.getD i 0]? = some x ∧ scope.names.lookup x = some .free ∧ (sc.names.lookup x = some .cell ∨ sc.names.lookup x = some .free)
  | [], _, _, i, hi => by simp at hi
  | c :: cs, j, h, i, hi => by
    unfold capOk at h
    rw [Bool.and_eq_true] at h
    obtain ⟨h1, h2⟩ := h
    cases i with
    | zero =>
      cases e : N[j]? with
      | none => rw [e] at h1; cases h1
      | some x =>
        rw [e] at h1
        simp only [Bool.and_eq_true, Bool.or_eq_true, decide_eq_true_eq] at h1
        exact ⟨x, by simpa using e, by simpa using h1.1.1, h1.1.2, h1.2⟩
    | succ i =>
      obtain ⟨x, a, b, c', d⟩ := capOk_get h2 i (by simpa using hi)
      exact ⟨x, by rw [← a]; congr 1; omega, by simpa using b, c', d⟩
theorem compScope_of {sc : Scope} {XN N : List Str} {scope : Scope} {caps : List Nat} (h : compOk sc XN N scope caps = true) : CompScope sc XN N scope caps := by
  unfold compOk at h
  simp only [Bool.and_eq_true, decide_eq_true_eq, List.all_eq_true] at h
  obtain ⟨⟨⟨⟨⟨⟨a, b⟩, c⟩, d⟩, e⟩, f⟩, g⟩ := h
  exact ⟨a, b, c, d, e, fun i hi => by simpa using capOk_get f i hi, g⟩
end L2
end
section
set_option Elab.async false
set_option linter.all false
set_option maxRecDepth 100000
set_option maxHeartbeats 1000000
namespace L2
open PySem PySem.Spec PyProof.Rows
section
variable {X : Cx} {pins : List (Addr × Obj)} {σ : St} {H : Hp} {s : Shared}
theorem Inv.turnedT {fp : List Addr} {h' : Heap} {t' : Nat} {T : Addr} {o : HO} (I : Inv X pins σ H s) (k : ∀ b u, b ∉ fp → s.heap.get? b = some u → h'.get? b = some u) (hf : ∀ b ∈ fp, FpOk X pins H b) (hT : s.heap.get? T = none)
    (new : ObjOk X.prog X.w (upd H T o) h' T o) : Inv X pins σ (upd H T o) { s with heap := h', toks := t' } := by
  have hn : H T = none := I.hok.free hT
  have nit : ∀ b u, H b = some u → b ∉ fp := fun b u e z => by rw [(hf b z).1] at e; cases e
  have sm : Same H (upd H T o) := Same.upd1 hn
  have old : ∀ b (u : Obj), s.heap.get? b = some u → upd H T o b = H b := fun b u e => by
    rw [upd_ne]
    rintro rfl
    rw [hT] at e; cases e
  refine I.step (g' := s.gens) (d' := s.drawn) (ch := fp) (fun b hb => ?_) (fun b o _ _ hc e _ => k b o hc e) (fun b o _ _ hc e _ => ⟨o.slots, k b o hc e⟩) (fun b u _ e n => by rw [old b u e]; exact n)
    (fun b o hc e => ⟨o, k b o hc e⟩) (fun b xs e => sm _ _ e) (fun b u v e => sm _ _ e) (fun b ps e => ⟨#[], by rw [sm _ _ e]; simp⟩) (fun m hm => ?_) (fun b u e => ?_) I.bare
  · obtain ⟨f0, f1, f2, f3, f4, f5⟩ := hf b hb
    exact ⟨f3, f1, f4, f5⟩
  · obtain ⟨o, es, ep, ho, r⟩ := hm
    exact ⟨o, es, ep, k _ o (fun z => (hf _ z).2.1 rfl) ho, r⟩
  · by_cases hb : b = T
    · subst hb; rw [upd_same] at e; cases e; exact new
    · rw [upd_ne hb] at e
      refine (I.hok b u e).stay (fun c v hc q => k c v ?_ q) (fun c q => ?_) fun c xs q => ?_
      · rcases hc with z | z
        · rw [z]; exact nit b u e
        · exact nit c _ z
      · exact sm _ _ q
      · exact sm _ _ q
end
def Ite (K : PySem.W.Frag) (a : Addr) : It :=
  ⟨fun i H => ∃ xs x, SqL K H a xs ∧ xs[i]? = some x, fun i H x H' => ∃ T y, x = .ref T ∧ H T = none ∧ H' = upd H T (.tup [.int i, y]) ∧ ∀ xs, SqL K H a xs → xs[i]? = some y, fun i H => ∃ xs, SqL K H a xs ∧ xs.length = i⟩
section
variable {X : Cx} {elts : List Expr} {k : Nat} {tpos : Pos}
def iEnum (K : PySem.W.Frag) (ta : TA) : TI := fun σ H R => ta σ H fun vs H1 => ∃ a xs, vs = [.ref a] ∧ H1 a = some (.lst xs) ∧ R (Ite K a) H1
end
section
variable {X : Cx} {e st : Expr} {te ts : TE} {pos p2 : Pos}
def tRevL (K : PySem.W.Frag) (te ts : TE) : TE := fun σ H Q => te σ H fun x H1 => ts σ H1 fun y H2 => ∃ a xs, x = .ref a ∧ y = .int (-1) ∧ SqL K H2 a xs ∧ ∀ p, H2 p = none → Q (.ref p) (upd H2 p (.lst xs.reverse))
theorem pe_revL (he : PE X e te) (hs : PE X st ts) : PE X (.Subscript e (.Slice none none (some st) p2) pos) (tRevL X.K te ts) := by
  intro pins s σ H Q I h
  refine Subscript_ (thn (he pins s σ H _ I h) fun v s1 ⟨x, H1, I1, r1, q1⟩ => ?_)
  refine wpAny_Slice ?_
  rw [evalPart_none]
  refine wpAny_pure (wpAny_pure ?_)
  rw [evalPart_some]
  refine thn (hs pins s1 σ H1 _ I1 q1) fun u s3 ⟨y, H3, I3, r3, q3⟩ => ?_
  obtain ⟨a, xs, rfl, rfl, hx, q⟩ := q3
  cases r1
  obtain ⟨tk, rfl⟩ := r3
  have I4 : Inv X pins σ H3 { s3 with heap := s3.heap.push { cls := .type "slice", data := .fields #[.none, .none, .int (-1) tk] } } := I3.kept (t' := s3.toks) fun b ob q => Heap.get?_push_of_some _ q
  obtain ⟨its, r, ht, hz⟩ := I4.list hx
  have hlen : its.toArray.size = xs.length := by rw [List.size_toArray]; exact r.length.symm
  show wpAny (model X.prog X.w) X.A (subscriptTail e (.Slice none none (some st) p2) (.ref a) (.ref s3.heap.objs.size)) (EP X pins σ Q) X.xe { s3 with heap := s3.heap.push { cls := .type "slice", data := .fields #[.none, .none, .int (-1) tk] } }
  refine tail_any (ops := [.ref a, .ref s3.heap.objs.size]) ht.isList.typeIs slot_list_getitem.lookup (wpAny_getItem_list_slice ht.isList (Heap.IsSliceOf.new ..) .none .none (.int (-1) tk) (by decide) ?_ (by rw [hlen]; exact hz)) (by with_unfolding_all rfl)
  rw [PySem.W.krv_pick]
  refine ⟨.ref _, _, I4.laid (t' := s3.toks) (o := .lst xs.reverse) (fun b ob q => Heap.get?_push_of_some _ q) (Nat.le_refl _) ?_, rfl, q _ (I4.hok.fresh (Nat.le_refl _))⟩
  exact ⟨by rw [List.length_reverse]; exact hz, its.reverse, 0, r.rev, Heap.get?_push_size _ rfl⟩
end
end L2
end
section
set_option Elab.async false
set_option linter.all false
set_option maxRecDepth 100000
set_option maxHeartbeats 1000000
namespace L2
open PySem PySem.Spec PyProof.Rows
def PrAt (h : Heap) (D : Addr) (v : Value) (k : Str) (x : Value) : Prop := ∃ b o t n, v = Value.ref b ∧ b ≠ D ∧ h.get? b = some o ∧ o.cls = .type "tuple" ∧ o.data = .seq #[.str k t, x] n
section
variable {prog : Program} {w : World} {A : Around} {R : Result → Shared → Prop}
end
section
variable {X : Cx}
def PrsAt (K : PySem.W.Frag) (H : Hp) (ts : List V) (kvs : List (Str × V)) : Prop := ts.length = kvs.length ∧ ∀ (i : Nat) (q : Str × V), kvs[i]? = some q → ∃ a, ts[i]? = some (.ref a) ∧ SqT K H a [.str q.1, q.2]
def rDictL (K : PySem.W.Frag) : List V → Hp → VK → Prop := fun xs H Q => ∃ p ts kvs, xs = [.ref p] ∧ SqL K H p ts ∧ PrsAt K H ts kvs ∧ (kvs.map (·.1)).Nodup ∧ kvs.length ≤ 1000 ∧ ∀ d, H d = none → Q (.ref d) (upd H d (.dK (encK kvs)))
def rSortedP (K : PySem.W.Frag) : List V → Hp → VK → Prop := fun xs H Q => ∃ p ts kvs, xs = [.ref p] ∧ SqL K H p ts ∧ PrsAt K H ts kvs ∧ (kvs.map (·.1)).Nodup ∧ kvs.length < 64 ∧
  ∀ (pm : List Nat) (l : Addr), pm.Perm (List.range kvs.length) → (pm.map fun i => (kvs.getD i (⟨#[]⟩, .non)).1.cps.toList).Pairwise (· < ·) → H l = none → Q (.ref l) (upd H l (.lst (pm.map fun i => ts.getD i .non)))
end
end L2
end
section
set_option Elab.async false
set_option linter.all false
set_option maxRecDepth 100000
set_option maxHeartbeats 1000000
namespace L2
open PySem PySem.Spec PyProof.Rows
structure Flown (P : Program) (w : World) (outer : List Env) (H : Hp) (s : Shared) (e : Addr) (cls a0 : Value) (B : Heap) (H' : Hp) (s' : Shared) : Prop where
  os : s'.os = s.os
  bare : AllBare s'.gens
  fly : Heap.FlyingW B outer e cls a0 s'.heap
  trB : ∀ b u, H' b = some u → ∃ o, B.get? b = some o
  hok : HOk P w H' s'.heap
  keep : ∀ b o, s.heap.get? b = some o → H b = none → b ∉ frs outer → B.get? b = some o
  slot : ∀ b o, s.heap.get? b = some o → b ∈ frs outer → H b = none → ∃ sl, s'.heap.get? b = some { o with slots := sl }
  free : ∀ b o, s.heap.get? b = some o → H b = none → H' b = none
  there : ∀ b o, s.heap.get? b = some o → b ∉ frs outer → ∃ o', B.get? b = some o'
  tups : ∀ b xs, H b = some (.tup xs) → H' b = some (.tup xs)
  frzs : ∀ b o u, H b = some (.frz o u) → H' b = some (.frz o u)
  tbls : ∀ b ps, H b = some (.tbl ps) → ∃ more, H' b = some (.tbl (ps ++ more))
  ef : H' e = none
def CXr (P : Program) (w : World) : CXT := fun outer H s E ev s' => ∃ (e : Addr) (cls a0 : Value) (B : Heap) (H' : Hp), ev = .ref e ∧ Flown P w outer H s e cls a0 B H' s' ∧ E cls none H'
section
variable {P : Program} {w : World} {outer : List Env} {H H' : Hp} {s s' : Shared} {e : Addr} {cls a0 : Value} {B h' : Heap}
theorem Flown.un (F : Flown P w outer H s e cls a0 B H' s') (frf : ∀ b ∈ frs outer, H b = none) : Un (frs outer) [] H H' s.heap s'.heap where
  keep := fun b o q n hb _ => F.fly.1 b o (F.keep b o q n hb)
  slot := fun b o q n hb _ => F.slot b o q hb n
  free := fun b o q n _ => F.free b o q n
  there := fun b o q _ => by
    by_cases hb : b ∈ frs outer
    · obtain ⟨sl, z⟩ := F.slot b o q hb (frf b hb)
      exact ⟨_, z⟩
    · obtain ⟨o', z⟩ := F.there b o q hb
      exact ⟨o', F.fly.1 b o' z⟩
  tups := F.tups
  frzs := F.frzs
  tbls := F.tbls
end
section
variable {X : Cx} {pins : List (Addr × Obj)} {σ : St} {H H' : Hp} {s s' : Shared} {e : Addr} {cls a0 : Value} {B h' : Heap}
end
structure XOk (X : Cx) (E : XK) : Prop where
  made : ∀ (pins : List (Addr × Obj)) (σ : St) (H : Hp) (s : Shared) (h' : Heap) (e C : Addr) (vs : List Value), Inv X pins σ H s → Heap.MadeExcOf s.heap h' e (.ref C) vs → E (.ref C) none H → X.xe (.ref e) { s with heap := h' }
  pass : Passes (CXr X.prog X.w) X E
abbrev veMro : List Value := [.type "ValueError", .type "Exception", .type "BaseException", .type "object"]
structure XCls (K : PySem.W.Frag) (mg : Str → Option Value) (x : Str) (C : Addr) : Prop where
  bound : mg x = some (.ref C)
  exc : PySem.W.excIn K C veMro "ValueError.__new__" = true
def tRaise (C : Addr) (E : XK) (t : TA) : TS := fun _ σ H => t σ H fun vs H1 => vs.length ≤ sizeLine ∧ E (.ref C) none H1
section
variable {X : Cx}
end
section
variable {P : Program} {w : World} {K : PySem.W.Frag} {mg : Str → Option Value} {base : Heap}
def CalR (P : Program) (w : World) (K : PySem.W.Frag) (mg : Str → Option Value) (base : Heap) (k : Nat) (x : Str) (ps : List Str) (sp : Sp) : Prop :=
  ∃ (f : Addr) (fd : FuncData), FnOk P w K mg base (CXr P w) k f fd ps sp ∧ mg x = some (.ref f) ∧ PySem.W.keepIn K (.ref f) = true ∧ Binds K fd ps []
end
def XO (e C : Addr) : HO := .ext fun h => ∃ oe vs, h.get? e = some oe ∧ oe.cls = .ref C ∧ oe.data = .fields vs
section
variable {M : Model} {A : Around} {E : Value → Shared → Prop} {h : Heap} {g : Array GenState} {d : Drawn} {t : Nat} {os : OsState}
end
abbrev Cx.hand (X : Cx) (e : Addr) : Cx := { X with A := X.A.mark (some (.ref e)), calm := false, xe := fun _ _ => False }
section
variable {X : Cx} {pins : List (Addr × Obj)} {σ : St} {H : Hp} {s : Shared} {e : Addr}
theorem Inv.hand (I : Inv X pins σ H s) (e : Addr) : Inv (X.hand e) pins σ H s :=
  ⟨⟨I.ok.mod, I.ok.kind, I.ok.glob, I.ok.blt, I.ok.above, I.ok.inj, I.ok.has, I.ok.cab, (fun z => by cases z), I.ok.frames, I.ok.stk, I.ok.exf, I.ok.bs, I.ok.bsz, I.ok.noex, I.ok.exfs, I.ok.funs, I.ok.frf⟩, I.os, I.bare, I.base, I.loc, I.cell, I.free, I.freeC, I.pin, I.hok, I.len⟩
theorem Inv.track {a : Addr} {o : HO} (I : Inv X pins σ H s) (hn : H a = none) (hnew : ∀ b ob, X.s₀.heap.get? b = some ob → b ≠ a) (hL : X.env.locals ≠ a) (hc : ∀ x c, X.env.cells.lookup x = some c → c ≠ a) (hp : ∀ p ∈ X.pn ++ pins, p.1 ≠ a)
    (new : ObjOk X.prog X.w (upd H a o) s.heap a o) : Inv X pins σ (upd H a o) s :=
  ⟨I.ok, I.os, I.bare, ⟨I.base.keep, I.base.slot, fun b ob q n hx => by rw [upd_ne (hnew b ob q)]; exact I.base.free b ob q n hx, I.base.there, fun b xs q => by rw [upd_ne (ne_of_none (I.base.tups b xs q) hn)]; exact I.base.tups b xs q,
    fun b ob u q => by rw [upd_ne (ne_of_none (I.base.frzs b ob u q) hn)]; exact I.base.frzs b ob u q, fun b ps q => let ⟨m, z⟩ := I.base.tbls b ps q; ⟨m, by rw [upd_ne (ne_of_none z hn)]; exact z⟩⟩, I.loc, I.cell, by rw [upd_ne hL]; exact I.free,
    fun x c q => by rw [upd_ne (hc x c q)]; exact I.freeC x c q, fun p q => let ⟨a1, a2, a3⟩ := I.pin p q; ⟨a1, by rw [upd_ne (hp p q)]; exact a2, a3⟩, I.hok.track hn new, I.len⟩
def subOf (K : PySem.W.Frag) (C L : Addr) : Bool := match K.lookup C with
  | some ⟨_, _, .cls cd, _⟩ => cd.mro.contains (.ref L)
  | _ => false
def tTry (K : PySem.W.Frag) (N : Nat) (i : Nat) (L : Addr) (tb : XK → TS) (ts : TS) : TS := fun D σ H =>
  tb (fun cls _ H' => ∃ C : Addr, cls = .ref C ∧ PySem.W.excIn K C veMro "ValueError.__new__" = true ∧ subOf K C L = true ∧ ∀ e, H' e = none → ts { nx := fun _ _ => False, rt := D.rt } ((List.replicate N none).set i (some (.ref e))) (upd H' e (XO e C))) D σ H
abbrev Cx.tryb (X : Cx) (ET : Value → Shared → Prop) (pn : List (Addr × Obj)) : Cx := { X with xe := ET, pn := pn }
theorem Inv.tryb (I : Inv X pins σ H s) (ET : Value → Shared → Prop) : Inv (X.tryb ET (X.pn ++ pins)) [] σ H s :=
  ⟨⟨I.ok.mod, I.ok.kind, I.ok.glob, I.ok.blt, I.ok.above, I.ok.inj, I.ok.has, I.ok.cab, I.ok.hd, I.ok.frames, I.ok.stk, I.ok.exf, I.ok.bs, I.ok.bsz, I.ok.noex, I.ok.exfs, I.ok.funs, I.ok.frf⟩, I.os, I.bare, I.base, I.loc, I.cell, I.free, I.freeC, fun p hp => I.pin p (by
    have hp' : p ∈ (X.pn ++ pins) ++ [] := hp
    rw [List.append_nil] at hp'
    exact hp'), I.hok, I.len⟩
end
structure RoomB (k : Nat) (A : Around) : Prop where
  dp : A.depth + 3 * k + 5 < recursionLimit
  un : A.units + 16 * k + 200 < cLine
theorem RoomB.deeper {k : Nat} {A : Around} (r : RoomB (k + 1) A) (env : Env) : RoomB k (A.deeper env) :=
  ⟨by have := r.dp; show A.depth + 1 + 3 * k + 5 < _; omega, by have := r.un; show A.units + 3 + 16 * k + 200 < _; omega⟩
theorem RoomB.depth {k : Nat} {A : Around} (r : RoomB k A) : A.depth < recursionLimit := by have := r.dp; omega
theorem RoomB.units {k : Nat} {A : Around} (r : RoomB k A) : A.units + 64 < cLine := by have := r.un; omega
def cxB (CX : CXT) (P : Program) (w : World) (K : PySem.W.Frag) (mg : Str → Option Value) (base : Heap) (N : List Str) (qual : Str) (scope : Scope) (f : Addr) (cd : Value) (A : Around) (outer : List Env) (s : Shared) (H : Hp) (E : XK) : Cx :=
  { cxOf CX P w K mg base N qual scope f cd A outer s H E with calm := false }
structure FnB (P : Program) (w : World) (K : PySem.W.Frag) (mg : Str → Option Value) (base : Heap) (CX : CXT) (k : Nat) (f : Addr) (fd : FuncData) (ps : List Str) (sp : Sp) : Prop where
  len : ∀ vs H Q E, sp vs H Q E → vs.length = ps.length
  run : ∀ (A : Around) (outer : List Env) (s : Shared) (H : Hp) (args : Args) (us : List Value) (vs : List V) (Q : VK) (E : XK), RoomB k A → Env0 P w K mg base A outer s H → BindsTo s fd args (ps.zip us) → Vals vs us → sp vs H Q E →
    codeAny (model P w) A (.call (.ref f) args) (CR CX outer P w H s Q E) s
section
variable {P : Program} {w : World} {K : PySem.W.Frag} {mg : Str → Option Value} {base : Heap}
def CalB (P : Program) (w : World) (K : PySem.W.Frag) (mg : Str → Option Value) (base : Heap) (k : Nat) (x : Str) (ps : List Str) (sp : Sp) : Prop :=
  ∃ (f : Addr) (fd : FuncData), FnB P w K mg base CX0 k f fd ps sp ∧ mg x = some (.ref f) ∧ PySem.W.keepIn K (.ref f) = true ∧ Binds K fd ps []
end
end L2
end
section
set_option Elab.async false
set_option linter.all false
set_option maxRecDepth 100000
set_option maxHeartbeats 1000000
namespace L2
open PySem PySem.Spec PyProof.Rows
section
variable {X : Cx}
def rRepT (K : PySem.W.Frag) : R2 := fun x y H Q => ∃ l k xs, x = .ref l ∧ y = .int k ∧ SqT K H l xs ∧ xs ≠ [] ∧ 2 ≤ k ∧ k < 1000 ∧ xs.length * k.toNat ≤ sizeLine ∧ ∀ p, H p = none → Q (.ref p) (upd H p (.tup (List.replicate k.toNat xs).flatten))
end
section
variable {prog : Program} {w : World} {A : Around} {E : Value → Shared → Prop} {s : Shared}
end
section
variable {X : Cx}
def rSlTW (K : PySem.W.Frag) : V → Option Int → Option Int → Hp → VK → Prop := fun x lo hi H Q => ∃ a xs, x = .ref a ∧ SqT K H a xs ∧ (HT.sIx xs.length 0 lo = 0 ∧ HT.sIx xs.length xs.length hi = xs.length) ∧ Q (.ref a) H
end
end L2
end
section
set_option Elab.async false
set_option linter.all false
set_option maxRecDepth 100000
set_option maxHeartbeats 1000000
namespace L2
open PySem PySem.Spec PyProof.Rows
section
variable {X : Cx}
theorem ps_setC {j : Nat} {y : Str} {py spos : Pos} {tg iter elt : Expr} {ifs : List Expr} {scope : Scope} {pos : Pos} {wi : TI} {g : TG} {tc : TT} {te : TE} {N : List Str} {caps : List Nat} (hN : X.N.Nodup) (hj : X.N[j]? = some y) (hy : Loc X.env.scope y) (hc : X.calm = true) (S : CompScope X.env.scope X.N N scope caps)
    (hi : PI X tg iter wi) (hg : ∀ cl C s H ex, PG (cxComp X N scope cl C s H ex) tg g) (hf : ∀ cl C s H ex, PF (cxComp X N scope cl C s H ex) ifs tc) (he : ∀ cl C s H ex, PE (cxComp X N scope cl C s H ex) elt te)
    (hs : ∀ x, foldedSetIterable iter X.env x = pure x := by intro _; rfl) (hsw : swapsWith (.ListComp elt [⟨tg, iter, ifs, 0⟩] scope pos) (some (.Name y py)) spos.line X.env = pure true := by rfl)
    (hfn : X.fn y = true ∨ X.env.scope.names.lookup y = some .local := by first | exact .inl rfl | exact .inr rfl | assumption) : PS X (.Assign [.Name y py] (.ListComp elt [⟨tg, iter, ifs, 0⟩] scope pos) spos) (tAsg (tComp wi g tc te caps N.length) (gName j)) := by
  intro pins s σ H D0 I h
  obtain ⟨cl, hcl, hcl1, hcl2⟩ := closure_of (env := X.env) (scope := scope) fun y hy e => I.ok.has y.1 (S.free y hy e)
  rw [exec_Assign_Name_used _ _ _ _ hsw]
  refine wpAny_bind (wpAny_standAt (wpAny_bind ?_))
  show wpAny _ X.A (do let _ ← comprehension (.ListComp elt [⟨tg, iter, ifs, 0⟩] scope pos) scope X.env _ (newList []) false (eval iter X.env) (some (assign (.Name y py) X.env))) _ _ s
  refine wpAny_bind (wpAny_mono (wpAny_comprehension_free (use := some (assign (.Name y py) X.env)) (Q := fun _ s' => SP X pins D0 .next s') rfl hs hcl S.kind S.names (thn (hi pins s σ H _ I h) fun v s1 h1 => thn h1 fun itv s2 h2 => ?_))
    (fun _ s' hq => wpAny_pure (wpAny_pure hq)) fun _ _ e => e)
  obtain ⟨it, fp, tn, J, H2, e, I2, T, st2, f2, W, ⟨m0, w0⟩, turn⟩ := h2
  subst e
  refine wpAny_newObj_type (wpAny_newFunctionEnv S.nocell (by intro y hy; simp at hy) (fun h₁ hns hsb => ?_) S.kind)
  dsimp only at hns hsb ⊢
  generalize hG : s2.heap.push { cls := .type "list", dict := none, data := .seq ([] : List Value).toArray } = G at hns hsb ⊢
  have hCs : G.objs.size = s2.heap.objs.size + 1 := by rw [← hG, Heap.size_push]
  have hDC : s2.heap.objs.size ≠ G.objs.size := by rw [hCs]; exact Nat.ne_of_lt (Nat.lt_succ_self _)
  have old : ∀ b o, s2.heap.get? b = some o → h₁.get? b = some o := fun b o e => by
    have hb := Heap.lt_size e
    refine hsb.extBut b o (by rw [hCs]; exact Nat.ne_of_lt (Nat.lt_succ_of_lt hb)) (Heap.get?_push_of_some _ ?_)
    rw [← hG]
    exact Heap.get?_push_of_some _ e
  have hD : h₁.get? s2.heap.objs.size = some { cls := .type "list", dict := none, data := .seq ([] : List Value).toArray } := by
    refine hsb.extBut _ _ hDC (Heap.get?_push_of_some _ ?_)
    rw [← hG]
    exact Heap.get?_push_size _ rfl
  have hfo : ∀ b ∈ fp, b < s2.heap.objs.size := fun b hb => let ⟨o, e, _⟩ := T.obj 0 _ st2 b hb; Heap.lt_size e
  have hCle : s2.heap.objs.size ≤ G.objs.size := by omega
  have ok := comp_ok (C := G.objs.size) I2 S hcl1 hcl2 hCle f2 hfo
  have I0 : Inv (cxComp X N scope cl G.objs.size s2 H2 fp) [(s2.heap.objs.size, { cls := .type "list", dict := none, data := .seq ([] : List Value).toArray })] (capStart caps N.length σ) H2 { s2 with heap := h₁, toks := s2.toks + ([] : List (Str × Value)).length } :=
    comp_start I2 ok S hcl1 hcl2 old hns hCle hD (Nat.le_refl _) hDC (fun v z => by cases z)
  have st1 : tn 0 h₁ := T.keep 0 _ _ st2 fun b _ o e => old b o e
  generalize hX : cxComp X N scope cl G.objs.size s2 H2 fp = X' at I0
  generalize hDa : s2.heap.objs.size = D at I0 hD hDC
  have loop : codeAny (model X.prog X.w) X.A (.compLoop (.ListComp elt [⟨tg, iter, ifs, 0⟩] scope pos) 0 (.ref it) (.ref D) (compEnvC scope cl G.objs.size X.env)) (compPost (model X.prog X.w) X.A X.xe (some (assign (.Name y py) X.env)) (fun _ s' => SP X pins D0 .next s') (.ref D) G.objs.size)
      { s2 with heap := h₁, toks := s2.toks + ([] : List (Str × Value)).length } := by
    subst hX
    refine loop_comp (J := fun n s' => ∃ i σ' H' acc its e, Inv (cxComp X N scope cl G.objs.size s2 H2 fp) [(D, { cls := .type "list", data := .seq (List.toArray its) e })] σ' H' s' ∧ Vals acc its ∧ acc.length ≤ sizeLine ∧ tn i s'.heap ∧ (∀ b ∈ fp, H' b = none) ∧ W i n acc σ' H')
      ?_ m0 ⟨0, _, H2, [], [], 0, I0, .nil, Nat.zero_le _, st1, fun b hb => (f2 b hb).1, w0⟩
    rintro n s3 ⟨i, σ3, H3, acc, its, ep, I3, rv, hz, st3, fr3, w3⟩
    have stat : ∀ {H' : Hp} {pl : List (Addr × Obj)}, (∀ b ∈ fp, H' b = none) → (∀ p ∈ pl, p.1 = D) → ∀ b ∈ fp, FpOk (cxComp X N scope cl G.objs.size s2 H2 fp) pl H' b := fun {H' pl} hn hpl b hb => by
      obtain ⟨a1, a2⟩ := ok.exf b hb
      exact ⟨hn b hb, a1, ok.exfs b hb, .inl hb, fun x c e => a2 x c e, fun p hp => by
        have hp' : p ∈ pl := hp
        rw [hpl p hp', ← hDa]
        exact Nat.ne_of_gt (hfo b hb)⟩
    have one : ∀ p ∈ [(D, ({ cls := .type "list", data := .seq (List.toArray its) ep } : Obj))], p.1 = D := fun p hp => by
      rcases List.mem_cons.mp hp with e | e
      · rw [e]
      · cases e
    have pinD : ∀ {pl : List (Addr × Obj)} {σ' : St} {H' : Hp} {s' : Shared} {o : Obj}, Inv (cxComp X N scope cl G.objs.size s2 H2 fp) pl σ' H' s' → (D, o) ∈ pl → s'.heap.get? D = some o ∧ H' D = none := fun {pl σ' H' s' o} I' hm => by
      obtain ⟨a, b, _⟩ := I'.pin (D, o) (List.mem_append_right _ hm)
      exact ⟨a, b⟩
    rcases turn i n acc σ3 H3 w3 with ⟨stop, q⟩ | ⟨go, hlt, step⟩
    · refine wpAny_mono (T.done (cxComp X N scope cl G.objs.size s2 H2 fp) rfl rfl rfl hc i _ s3 σ3 H3 (fun _ _ => False) I3 (stat fr3 one) st3 stop) (fun r s4 ⟨hr, I4⟩ => ?_) fun _ _ f => f
      subst hr
      obtain ⟨hDo, hDn⟩ := pinD I4 (List.mem_cons_self ..)
      obtain ⟨m4, hm4, _⟩ := I4.loc
      have keepC : ∀ b (u : Obj), b ≠ G.objs.size → s4.heap.get? b = some u → s4.heap.get? b = some u := fun b u _ e => e
      have un : Un (frs X.stack) fp H2 H3 s2.heap s4.heap := I4.base
      have hDo' := hDo
      have hlow : ∀ b (o : Obj), s2.heap.get? b = some o → b ≠ G.objs.size ∧ b ≠ D := fun b o e => by
        have h0 := Heap.lt_size e
        exact ⟨by rw [hCs]; exact Nat.ne_of_lt (Nat.lt_succ_of_lt h0), by rw [← hDa]; exact Nat.ne_of_lt h0⟩
      have un' : Un (frs X.stack) fp H2 (upd H3 D (.lst acc)) s2.heap s4.heap :=
        ⟨fun b o e n' hb hx => keepC b o (hlow b o e).1 (un.keep b o e n' hb hx),
         fun b o e n' hb hx => let ⟨sl, q⟩ := un.slot b o e n' hb hx; ⟨sl, keepC b _ (hlow b o e).1 q⟩,
         fun b o e n' hx => by rw [upd_ne (hlow b o e).2]; exact un.free b o e n' hx,
         fun b o e hx => let ⟨o', q⟩ := un.there b o e hx; ⟨o', keepC b _ (hlow b o e).1 q⟩,
         fun b xs e => by rw [upd_ne (ne_of_none (un.tups b xs e) hDn)]; exact un.tups b xs e,
         fun b o u e => by rw [upd_ne (ne_of_none (un.frzs b o u e) hDn)]; exact un.frzs b o u e,
         fun b ps e => let ⟨mo, q⟩ := un.tbls b ps e; ⟨mo, by rw [upd_ne (ne_of_none q hDn)]; exact q⟩⟩
      have hok : HOk X.prog X.w (upd H3 D (.lst acc)) s4.heap := I4.hok.track hDn ⟨hz, its, ep, rv, hDo'⟩
      have IX : Inv X pins σ (upd H3 D (.lst acc)) s4 := I2.call' I4.os un' hok I4.bare (fun b hb => by
        obtain ⟨_, f1, _, f3, f4, f5⟩ := f2 b hb
        exact ⟨f3, f1, f4, f5⟩)
      have hCn : upd H3 D (.lst acc) G.objs.size = none := by
        rw [upd_ne (Ne.symm hDC)]; exact I4.free
      have fpC : FpOk X pins (upd H3 D (.lst acc)) G.objs.size := I2.fpOk hCle hCn
      obtain ⟨oC, es, epC, hoC, hdC, hsk, hnf⟩ := hm4
      have IXp := IX.pinned (fp := [G.objs.size]) (fun b hb => by
        have : b = G.objs.size := by simpa using hb
        rw [this]; exact fpC) (fun b hb => by
        have : b = G.objs.size := by simpa using hb
        rw [this]; exact ⟨oC, hoC, fun v z => by rw [hdC] at z; cases z⟩)
      refine wpAny_assign_Name (store_ok IXp hN hj hy (v := .ref D) rfl (fun s5 I5 => ?_) hfn)
      have pC := (I5.pin (G.objs.size, oC) (List.mem_append_right _ (List.mem_append_right _ (mem_pinsAt (List.mem_cons_self ..) hoC)))).1
      refine ⟨m4, ⟨oC, es, epC, pC, hdC, hsk, hnf⟩, fun h' hsb' => ?_⟩
      obtain ⟨c0, c1, c2, c3, c4, c5⟩ := fpC
      exact ⟨_, _, I5.unpinned.turned (t' := s5.toks) (fun b o hb e => hsb'.extBut b o hb e) c0 c1 c3 c4 c5, q D hDn⟩
    · refine wpAny_mono (T.item (cxComp X N scope cl G.objs.size s2 H2 fp) rfl rfl rfl hc i _ s3 σ3 H3 (fun _ _ => False) I3 (stat fr3 one) st3 go) (fun r s4 ⟨u, hr, h4⟩ => ?_) fun _ _ f => f
      subst hr
      refine thn h4 fun _ s5 ⟨x, H5, I5, r5, y5, st5, fr5⟩ => ?_
      have I5' := I5.pinned (stat fr5 one) (T.obj _ _ st5)
      refine thn (hg cl G.objs.size s2 H2 fp _ s5 σ3 H5 x u _ I5' r5 (step x H5 y5)) fun _ s6 ⟨σ6, H6, I6, q6⟩ => ?_
      refine thn (hf cl G.objs.size s2 H2 fp _ s6 σ6 H6 _ I6 q6) fun b s7 ⟨H7, I7, q7⟩ => ?_
      have fin : ∀ {pl : List (Addr × Obj)} {σ' : St} {H' : Hp} {s' : Shared}, Inv (cxComp X N scope cl G.objs.size s2 H2 fp) (pl ++ pinsAt fp s5.heap) σ' H' s' → tn (i + 1) s'.heap ∧ ∀ b ∈ fp, H' b = none := fun {pl σ' H' s'} I' => by
        refine ⟨T.keep _ _ _ st5 fun b hb o e => (I'.pin (b, o) (List.mem_append_right _ (List.mem_append_right _ (mem_pinsAt hb e)))).1, fun b hb => ?_⟩
        obtain ⟨o, e, _⟩ := T.obj _ _ st5 b hb
        exact (I'.pin (b, o) (List.mem_append_right _ (List.mem_append_right _ (mem_pinsAt hb e)))).2.1
      cases b with
      | false =>
        rw [if_neg Bool.false_ne_true] at q7 ⊢
        obtain ⟨m', hm, w7⟩ := q7
        obtain ⟨a1, a2⟩ := fin I7
        exact ⟨m', hm, i + 1, σ6, H7, acc, its, ep, I7.unpinned, rv, hz, a1, a2, w7⟩
      | true =>
        rw [if_pos rfl] at q7 ⊢
        refine thn (he cl G.objs.size s2 H2 fp _ s7 σ6 H7 _ I7 q7) fun y s8 ⟨yv, H8, I8, r8, m', hm, w8⟩ => ?_
        obtain ⟨a1, a2⟩ := fin I8
        obtain ⟨b1, b2⟩ := pinD I8 (List.mem_append_left _ (List.mem_cons_self ..))
        have hl := rv.length
        refine call_meets F.slot_list_append ⟨_, b1, rfl⟩ F.entry_list_append (F.args_list_append_2 _ _) (PySem.list_append D its.toArray ep y (by rw [List.size_toArray]; omega)) ⟨b1, ?_⟩
        have q9 := PySem.IsL.update b1 (·.push y)
        have kp : ∀ b o, b ≠ D → s8.heap.get? b = some o → (s8.heap.update D (Obj.mapSeq (·.push y))).get? b = some o := fun b o hb e => (Heap.get?_update_other s8.heap (Obj.mapSeq (·.push y)) (Ne.symm hb)).trans e
        have I9 : Inv (cxComp X N scope cl G.objs.size s2 H2 fp) [] σ6 H8 { s8 with heap := s8.heap.update D (Obj.mapSeq (·.push y)) } :=
          (I8.pins_of (pins' := []) fun p hp => by cases hp).turned (t' := s8.toks) kp b2 hDC (.inr (by rw [← hDa]; exact Nat.le_refl _)) (fun x c e z => by
            have e' : X.env.cells.lookup x = some c := hcl1 x c e
            obtain ⟨v', hv'⟩ := I2.cell x c e'
            have h0 := hv'.lt
            rw [z, ← hDa] at h0
            exact Nat.lt_irrefl _ h0) fun p hp => by
              have : p ∈ ([] : List (Addr × Obj)) := hp
              cases this
        have hpu : its.toArray.push y = (its ++ [y]).toArray := by simp
        rw [hpu] at q9
        obtain ⟨e9, q9⟩ : ∃ e9, (s8.heap.update D (Obj.mapSeq (·.push y))).get? D = some { cls := .type "list", data := .seq (its ++ [y]).toArray e9 } := ⟨_, q9⟩
        refine ⟨m', hm, i + 1, σ6, H8, acc ++ [yv], its ++ [y], e9, I9.pins_of fun p hp => ?_, rv.append (.cons r8 .nil), ?_, T.keep _ _ _ a1 fun b hb o e => kp b o ?_ e, a2, w8⟩
        · obtain rfl : p = (D, { cls := .type "list", data := .seq (its ++ [y]).toArray e9 }) := by
            rcases List.mem_cons.mp hp with e | e
            · exact e
            · cases e
          obtain ⟨_, _, c3, c4, _⟩ := I8.pin (D, _) (List.mem_append_right _ (List.mem_append_left _ (List.mem_cons_self ..)))
          exact ⟨q9, b2, c3, c4, fun v z => by cases z⟩
        · rw [List.length_append, List.length_singleton]; omega
        · rintro rfl
          have h0 := hfo b hb
          rw [hDa] at h0
          exact Nat.lt_irrefl _ h0
  exact codeAny_compStart_list loop (T.self X.A 0 _ _ _ st1 loop)
end
end L2
end
section
set_option Elab.async false
set_option linter.all false
set_option maxRecDepth 100000
set_option maxHeartbeats 1000000
namespace L2
open PySem PySem.Spec PyProof.Rows
def CDivB (i j : Int) : Prop := 0 < j ∧ j < 1606938044258990275541962092341162602522202993782792835301376
def Rdy (P : Program) (w : World) (K : PySem.W.Frag) (mg : Str → Option Value) (base : Heap) (A : Around) (x : V) (sp : Sp) : Prop := ∃ (k : Nat) (f : Addr) (fd : FuncData) (ps : List Str), x = .ref f ∧ FnOk P w K mg base (CXr P w) k f fd ps sp ∧ Room k A ∧ PySem.W.keepIn K (.ref f) = true ∧ Binds K fd ps []
def tCallV (R : V → Sp → Prop) (E : XK) (tf : TE) (t : TA) : TE := fun σ H Q => tf σ H fun x H1 => ∃ sp, R x sp ∧ t σ H1 fun vs H2 => sp (vs ++ []) H2 Q E
section
variable {X : Cx} {E : XK} {fe e : Expr} {es : List Expr} {tf : TE} {t : TA} {pos : Pos}
end
end L2
end
section
set_option Elab.async false
set_option linter.all false
set_option maxRecDepth 100000
set_option maxHeartbeats 1000000
namespace L2
open PySem PySem.Spec PyProof.Rows
section
variable {prog : Program} {w : World} {A : Around} {E : Value → Shared → Prop} {s : Shared}
theorem nextOf_tup_item {it t : Addr} {i : Nat} {items} {x : Value} {Q : Value → Shared → Prop} (hit : s.heap.IsTupleIter it t i) (ht : s.heap.IsTuple t items) (hx : items[i]? = some x)
    (hQ : ∀ h', h'.IsTupleIter it t (i + 1) → Heap.SameBut it s.heap h' → Q x { s with heap := h' }) : wpAny (model prog w) A (Builtin.SmallTypes.nextOf (.ref it)) Q E s := by
  obtain ⟨o, ho, hc, hd⟩ := id hit
  obtain ⟨ol, hol, _, nl, hdl⟩ := ht
  unfold Builtin.SmallTypes.nextOf
  refine wpAny_bind (wpAny_callSpecial?_slot (name := Str.ofString "__next__") hit.typeIs F.slot_tuple_iterator_next (wpAny_call_entry F.slot_tuple_iterator_next hit.typeIs F.entry_tuple_iterator_next ?_ (F.args_tuple_iterator_next_1 _)))
  show wpAny _ _ (field (.ref it) 0 >>= _) _ _ s
  refine wpAny_bind (wpAny_field ho hd (x := .ref t) rfl ?_)
  show wpAny _ _ (if (Value.ref t == Value.none) = true then _ else _) _ _ s
  rw [if_neg (show ¬ ((Value.ref t == Value.none) = true) from Bool.false_ne_true)]
  show wpAny _ _ (field (.ref it) 1 >>= _) _ _ s
  refine wpAny_bind (wpAny_field ho hd (x := .int i 0) rfl ?_)
  show wpAny _ _ (seqItems? (.ref t) >>= _) _ _ s
  refine wpAny_bind (wpAny_seqItems hol hdl ?_)
  simp only [Int.toNat_natCast, hx]
  refine wpAny_bind (wpAny_setField ho hd (by simp) (wpAny_pure ⟨x, rfl, wpAny_pure (hQ _ ?_ (Heap.SameBut.update ..))⟩))
  exact ⟨_, Heap.get?_update_self _ ho (Obj.isFreed_of_fields (Obj.data_mapFields hd _)), (Obj.cls_mapFields ..).trans hc, by rw [Obj.data_mapFields hd]; simp [rawInt]⟩
theorem nextOf_tup_end {it t : Addr} {i : Nat} {items} {Q : Value → Shared → Prop} (hh : A.handled = none) (hit : s.heap.IsTupleIter it t i) (ht : s.heap.IsTuple t items) (hx : items[i]? = none)
    (hE : ∀ h' e, Heap.ExtBut it s.heap h' → (∃ o, h'.get? e = some o ∧ o.cls = .type "StopIteration") → E (.ref e) { s with heap := h' }) : wpAny (model prog w) A (Builtin.SmallTypes.nextOf (.ref it)) Q E s := by
  obtain ⟨o, ho, hc, hd⟩ := id hit
  obtain ⟨ol, hol, _, nl, hdl⟩ := ht
  unfold Builtin.SmallTypes.nextOf
  refine wpAny_bind (wpAny_callSpecial?_slot (name := Str.ofString "__next__") hit.typeIs F.slot_tuple_iterator_next (wpAny_call_entry F.slot_tuple_iterator_next hit.typeIs F.entry_tuple_iterator_next ?_ (F.args_tuple_iterator_next_1 _)))
  show wpAny _ _ (field (.ref it) 0 >>= _) _ _ s
  refine wpAny_bind (wpAny_field ho hd (x := .ref t) rfl ?_)
  show wpAny _ _ (if (Value.ref t == Value.none) = true then _ else _) _ _ s
  rw [if_neg (show ¬ ((Value.ref t == Value.none) = true) from Bool.false_ne_true)]
  show wpAny _ _ (field (.ref it) 1 >>= _) _ _ s
  refine wpAny_bind (wpAny_field ho hd (x := .int i 0) rfl ?_)
  show wpAny _ _ (seqItems? (.ref t) >>= _) _ _ s
  refine wpAny_bind (wpAny_seqItems hol hdl ?_)
  simp only [Int.toNat_natCast, hx]
  refine wpAny_bind (wpAny_rule (wpAny_bind (wpAny_setField ho hd (by simp) ?_)))
  show wpAny _ _ (newExc (.type "StopIteration") [] >>= _) _ _ _
  refine wpAny_bind ?_
  simp only [newExc, newTuple]
  refine wpAny_bind (wpAny_newObj_type ?_ (by size_fits))
  refine wpAny_bind (m := firstArgMember _ _) (wpAny_of_eq (a := Value.none) (by first | rfl | (simp only [firstArgMember]; rfl)) ?_)
  refine wpAny_newObj_type ?_ (by size_fits)
  simp only [raiseNew]
  refine wpAny_bind (wpAny_handled ?_)
  first | rw [show A.in1.handled = none from hh] | rw [hh]
  refine wpAny_bind (wpAny_pure (wpAny_throw ?_))
  exact hE _ _ (((Heap.SameBut.update ..).extBut.push _).push _) ⟨_, Heap.get?_push_size _ rfl, rfl⟩
end
theorem drawsTup {prog : Program} {w : World} {A : Around} (hh : A.handled = none) (it l : Addr) (hne : l ≠ it) (items : Array Value) :
    Draws prog w A it [it, l] items.size (fun i v => items[i]? = some v) (fun i h => h.IsTupleIter it l i ∧ h.IsTuple l items) where
  live := fun _ _ st => let ⟨o, ho, _⟩ := st.1; ⟨o, ho⟩
  frame := fun _ _ _ st hk => ⟨st.1.at fun o e => hk it (by simp) o e, let ⟨o, e, r⟩ := st.2; ⟨o, hk l (by simp) o e, r⟩⟩
  item := fun i s Q E hi st hQ => nextOf_tup_item st.1 st.2 (x := items[i]) (by simp [hi]) fun h' hit' hs' => hQ _ h' s.toks (by simp [hi]) ⟨hit', st.2.extBut hs'.extBut hne⟩ hs'
  done := fun s Q E st hE => nextOf_tup_end hh st.1 st.2 (by simp) hE
structure Side (z TI TO i1 i2 : Addr) (fp1 fp2 : List Addr) : Prop where
  TIz : TI ≠ z
  TOz : TO ≠ z
  i1z : i1 ≠ z
  i2z : i2 ≠ z
  TITO : TI ≠ TO
  TIi1 : TI ≠ i1
  TIi2 : TI ≠ i2
  TOi1 : TO ≠ i1
  TOi2 : TO ≠ i2
  i12 : i1 ≠ i2
  f1 : ∀ c ∈ fp1, c ≠ z ∧ c ≠ TO ∧ c ≠ i2
  f2 : ∀ c ∈ fp2, c ≠ z ∧ c ≠ TO ∧ c ≠ i1
section
variable {prog : Program} {w : World} {A : Around} {E : Value → Shared → Prop} {s : Shared} {z TI TO i1 i2 : Addr} {fp1 fp2 : List Addr} {n1 n2 : Nat} {P1 P2 : Nat → Value → Prop} {T1 T2 : Nat → Heap → Prop} {k : Nat} {a b : Value}
theorem zipD_item {Q : Value → Shared → Prop} (D1 : Draws prog w A i1 fp1 n1 P1 T1) (D2 : Draws prog w A i2 fp2 n2 P2 T2) (D : Side z TI TO i1 i2 fp1 fp2)
    (hz : IsZip s.heap z TI TO .none) (hTI : IsPair s.heap TI (.ref i1) (.ref i2)) (hTO : IsPair s.heap TO a b) (t1 : T1 k s.heap) (t2 : T2 k s.heap) (l1 : k < n1) (l2 : k < n2)
    (hQ : ∀ x y h' tk, P1 k x → P2 k y → IsZip h' z TI TO (rawInt s.heap.objs.size) → IsPair h' TO x y → T1 (k + 1) h' → T2 (k + 1) h' → IsPair h' s.heap.objs.size x y → h'.objs.size = s.heap.objs.size + 1 →
      (∀ c o, c ≠ z → c ≠ TO → c ≠ i1 → c ≠ i2 → s.heap.get? c = some o → h'.get? c = some o) → Q (.ref s.heap.objs.size) { s with heap := h', toks := tk }) :
    wpAny (model prog w) A (Builtin.«zip.__next__» ⟨[.ref z], []⟩) (fun fin s' => ∃ v, fin = .done (.ret v) ∧ Q v s') E s := by
  show wpAny _ _ (field (.ref z) 2 >>= _) _ _ _
  refine wpAny_bind (wpAny_field hz rfl (x := .bool false) rfl ?_)
  show wpAny _ _ (field (.ref z) 3 >>= _) _ _ _
  refine wpAny_bind (wpAny_field hz rfl (x := .ref TI) rfl ?_)
  refine wpAny_bind (wpAny_seqItems hTI rfl ?_)
  show wpAny _ _ (Builtin.SmallTypes.ownedTupleIsFree (.ref z) >>= _) _ _ _
  refine wpAny_bind ?_
  unfold Builtin.SmallTypes.ownedTupleIsFree
  refine wpAny_bind (wpAny_field hz rfl (x := .none) rfl (wpAny_pure ?_))
  simp only [if_true]
  refine wpAny_bind (wpAny_rule ?_)
  refine wpAny_bind (wpAny_field hz rfl (x := .ref TO) rfl ?_)
  refine wpAny_bind (wpAny_setField_rec hz (by simp) fun h₁ hz₁ hs₁ => ?_)
  replace hz₁ : IsZip h₁ z TI TO .ellipsis := hz₁
  refine wpAny_bind ?_
  simp only [List.zipIdx_cons, List.zipIdx_nil, List.forIn_cons, List.forIn_nil]
  refine wpAny_bind (wpAny_bind (wpAny_onRaise ?_))
  show wpAny _ _ (Builtin.SmallTypes.nextOf (.ref i1) >>= _) _ _ _
  have t1₁ : T1 k h₁ := D1.frame _ _ _ t1 fun c hc o e => hs₁.extBut _ _ (D.f1 c hc).1 e
  have t2₁ : T2 k h₁ := D2.frame _ _ _ t2 fun c hc o e => hs₁.extBut _ _ (D.f2 c hc).1 e
  refine wpAny_bind (D1.item k _ _ _ l1 t1₁ fun x h₂ tk2 px t1₂ hs₂ => wpAny_pure ?_)
  have hTO₂ : IsPair h₂ TO a b := hs₂.extBut _ _ D.TOi1 (hs₁.extBut _ _ D.TOz hTO)
  refine wpAny_bind (wpAny_seqItems hTO₂ rfl ?_)
  refine wpAny_bind (wpAny_updateSeq_pair hTO₂ fun h₃ hTO₃ hs₃ => ?_)
  replace hTO₃ : IsPair h₃ TO x b := hTO₃
  refine wpAny_bind (wpAny_letGo (wpAny_pure ?_))
  refine wpAny_bind (wpAny_bind (wpAny_onRaise ?_))
  show wpAny _ _ (Builtin.SmallTypes.nextOf (.ref i2) >>= _) _ _ _
  have t2₃ : T2 k h₃ := D2.frame _ _ _ t2₁ fun c hc o e => hs₃.extBut _ _ (D.f2 c hc).2.1 (hs₂.extBut _ _ (D.f2 c hc).2.2 e)
  refine wpAny_bind (D2.item k _ _ _ l2 t2₃ fun y h₄ tk4 py t2₄ hs₄ => wpAny_pure ?_)
  have hTO₄ : IsPair h₄ TO x b := hs₄.extBut _ _ D.TOi2 hTO₃
  refine wpAny_bind (wpAny_seqItems hTO₄ rfl ?_)
  refine wpAny_bind (wpAny_updateSeq_pair hTO₄ fun h₅ hTO₅ hs₅ => ?_)
  replace hTO₅ : IsPair h₅ TO x y := hTO₅
  refine wpAny_bind (wpAny_letGo (wpAny_pure (wpAny_pure ?_)))
  refine wpAny_bind (wpAny_seqItems hTO₅ rfl ?_)
  refine wpAny_bind (wpAny_newTuple ?_)
  have hsz : h₅.objs.size = s.heap.objs.size := by rw [hs₅.1, hs₄.1, hs₃.1, hs₂.1, hs₁.1]
  have hz₅ : IsZip h₅ z TI TO .ellipsis := hs₅.extBut _ _ D.TOz.symm (hs₄.extBut _ _ D.i2z.symm (hs₃.extBut _ _ D.TOz.symm (hs₂.extBut _ _ D.i1z.symm hz₁)))
  have hk₅ : ∀ c o, c ≠ z → c ≠ TO → c ≠ i1 → c ≠ i2 → s.heap.get? c = some o → h₅.get? c = some o := fun c o c1 c2 c3 c4 e =>
    hs₅.extBut _ _ c2 (hs₄.extBut _ _ c4 (hs₃.extBut _ _ c2 (hs₂.extBut _ _ c3 (hs₁.extBut _ _ c1 e))))
  have t1₅ : T1 (k + 1) h₅ := D1.frame _ _ _ t1₂ fun c hc o e => hs₅.extBut _ _ (D.f1 c hc).2.1 (hs₄.extBut _ _ (D.f1 c hc).2.2 (hs₃.extBut _ _ (D.f1 c hc).2.1 e))
  have t2₅ : T2 (k + 1) h₅ := D2.frame _ _ _ t2₄ fun c hc o e => hs₅.extBut _ _ (D.f2 c hc).2.1 e
  have hzlt : z < h₅.objs.size := Heap.lt_size hz₅
  show wpAny _ _ (Builtin.SmallTypes.ownedTupleHandOut (.ref z) (.ref h₅.objs.size) >>= _) _ _ _
  refine wpAny_bind ?_
  unfold Builtin.SmallTypes.ownedTupleHandOut
  have hz₆ : IsZip (h₅.push { cls := .type "tuple", data := .seq #[x, y] }) z TI TO .ellipsis := Heap.get?_push_of_some _ hz₅
  refine wpAny_bind (wpAny_setField_rec hz₆ (by simp) fun h₇ hz₇ hs₇ => ?_)
  replace hz₇ : IsZip h₇ z TI TO (rawInt h₅.objs.size) := hz₇
  refine wpAny_setField_rec hz₇ (by simp) fun h₈ hz₈ hs₈ => ?_
  replace hz₈ : IsZip h₈ z TI TO (rawInt h₅.objs.size) := hz₈
  have up : ∀ c o, c ≠ z → h₅.get? c = some o → h₈.get? c = some o := fun c o c1 e => hs₈.extBut _ _ c1 (hs₇.extBut _ _ c1 (Heap.get?_push_of_some _ e))
  have hT₈ : IsPair h₈ h₅.objs.size x y := hs₈.extBut _ _ (Nat.ne_of_gt hzlt) (hs₇.extBut _ _ (Nat.ne_of_gt hzlt) (Heap.get?_push_size _ rfl))
  have hz8 : h₈.objs.size = h₅.objs.size + 1 := by rw [hs₈.1, hs₇.1, Heap.size_push]
  rw [hsz] at hz₈ hT₈ hz8
  refine wpAny_pure ⟨_, rfl, ?_⟩
  show Q (.ref h₅.objs.size) _
  rw [hsz]
  exact hQ x y h₈ _ px py hz₈ (up _ _ D.TOz hTO₅) (D1.frame _ _ _ t1₅ fun c hc o e => up c o (D.f1 c hc).1 e) (D2.frame _ _ _ t2₅ fun c hc o e => up c o (D.f2 c hc).1 e) hT₈ hz8 fun c o c1 c2 c3 c4 e => up c o c1 (hk₅ c o c1 c2 c3 c4 e)
theorem zipD_end {Q : Fin → Shared → Prop} (D1 : Draws prog w A i1 fp1 n1 P1 T1) (D2 : Draws prog w A i2 fp2 n2 P2 T2) (D : Side z TI TO i1 i2 fp1 fp2)
    (hz : IsZip s.heap z TI TO .none) (hTI : IsPair s.heap TI (.ref i1) (.ref i2)) (hTO : IsPair s.heap TO a b) (t1 : T1 n1 s.heap)
    (hE : ∀ h' e, (∀ c o, c ≠ z → c ≠ TO → c ≠ i1 → c ≠ i2 → s.heap.get? c = some o → h'.get? c = some o) → (∃ o, h'.get? e = some o ∧ o.cls = .type "StopIteration") → E (.ref e) { s with heap := h' }) :
    wpAny (model prog w) A (Builtin.«zip.__next__» ⟨[.ref z], []⟩) Q E s := by
  show wpAny _ _ (field (.ref z) 2 >>= _) _ _ _
  refine wpAny_bind (wpAny_field hz rfl (x := .bool false) rfl ?_)
  show wpAny _ _ (field (.ref z) 3 >>= _) _ _ _
  refine wpAny_bind (wpAny_field hz rfl (x := .ref TI) rfl ?_)
  refine wpAny_bind (wpAny_seqItems hTI rfl ?_)
  show wpAny _ _ (Builtin.SmallTypes.ownedTupleIsFree (.ref z) >>= _) _ _ _
  refine wpAny_bind ?_
  unfold Builtin.SmallTypes.ownedTupleIsFree
  refine wpAny_bind (wpAny_field hz rfl (x := .none) rfl (wpAny_pure ?_))
  simp only [if_true]
  refine wpAny_bind (wpAny_rule ?_)
  refine wpAny_bind (wpAny_field hz rfl (x := .ref TO) rfl ?_)
  refine wpAny_bind (wpAny_setField_rec hz (by simp) fun h₁ hz₁ hs₁ => ?_)
  replace hz₁ : IsZip h₁ z TI TO .ellipsis := hz₁
  refine wpAny_bind ?_
  simp only [List.zipIdx_cons, List.zipIdx_nil, List.forIn_cons, List.forIn_nil]
  refine wpAny_bind (wpAny_bind (wpAny_onRaise ?_))
  show wpAny _ _ (Builtin.SmallTypes.nextOf (.ref i1) >>= _) _ _ _
  have t1₁ : T1 n1 h₁ := D1.frame _ _ _ t1 fun c hc o e => hs₁.extBut _ _ (D.f1 c hc).1 e
  refine wpAny_bind (D1.done _ _ _ t1₁ fun h₂ e hs₂ he => ?_)
  obtain ⟨oe, hoe, hce⟩ := he
  have hz₂ : IsZip h₂ z TI TO .ellipsis := hs₂ _ _ D.i1z.symm hz₁
  have hez : e ≠ z := fun x => by subst x; rw [hz₂] at hoe; cases hoe; simp at hce
  refine wpAny_setField_rec hz₂ (by simp) fun h₃ _ hs₃ => hE h₃ e (fun c o c1 _ c3 _ x => hs₃.extBut _ _ c1 (hs₂ _ _ c3 (hs₁.extBut _ _ c1 x))) ⟨oe, hs₃.extBut _ _ hez hoe, hce⟩
theorem zipD_end2 {Q : Fin → Shared → Prop} (D1 : Draws prog w A i1 fp1 n1 P1 T1) (D2 : Draws prog w A i2 fp2 n2 P2 T2) (D : Side z TI TO i1 i2 fp1 fp2)
    (hz : IsZip s.heap z TI TO .none) (hTI : IsPair s.heap TI (.ref i1) (.ref i2)) (hTO : IsPair s.heap TO a b) (t1 : T1 n2 s.heap) (l1 : n2 < n1) (t2 : T2 n2 s.heap)
    (hE : ∀ h' e tk, (∀ c o, c ≠ z → c ≠ TO → c ≠ i1 → c ≠ i2 → s.heap.get? c = some o → h'.get? c = some o) → (∃ o, h'.get? e = some o ∧ o.cls = .type "StopIteration") → E (.ref e) { s with heap := h', toks := tk }) :
    wpAny (model prog w) A (Builtin.«zip.__next__» ⟨[.ref z], []⟩) Q E s := by
  show wpAny _ _ (field (.ref z) 2 >>= _) _ _ _
  refine wpAny_bind (wpAny_field hz rfl (x := .bool false) rfl ?_)
  show wpAny _ _ (field (.ref z) 3 >>= _) _ _ _
  refine wpAny_bind (wpAny_field hz rfl (x := .ref TI) rfl ?_)
  refine wpAny_bind (wpAny_seqItems hTI rfl ?_)
  show wpAny _ _ (Builtin.SmallTypes.ownedTupleIsFree (.ref z) >>= _) _ _ _
  refine wpAny_bind ?_
  unfold Builtin.SmallTypes.ownedTupleIsFree
  refine wpAny_bind (wpAny_field hz rfl (x := .none) rfl (wpAny_pure ?_))
  simp only [if_true]
  refine wpAny_bind (wpAny_rule ?_)
  refine wpAny_bind (wpAny_field hz rfl (x := .ref TO) rfl ?_)
  refine wpAny_bind (wpAny_setField_rec hz (by simp) fun h₁ hz₁ hs₁ => ?_)
  replace hz₁ : IsZip h₁ z TI TO .ellipsis := hz₁
  refine wpAny_bind ?_
  simp only [List.zipIdx_cons, List.zipIdx_nil, List.forIn_cons, List.forIn_nil]
  refine wpAny_bind (wpAny_bind (wpAny_onRaise ?_))
  show wpAny _ _ (Builtin.SmallTypes.nextOf (.ref i1) >>= _) _ _ _
  have t1₁ : T1 n2 h₁ := D1.frame _ _ _ t1 fun c hc o e => hs₁.extBut _ _ (D.f1 c hc).1 e
  have t2₁ : T2 n2 h₁ := D2.frame _ _ _ t2 fun c hc o e => hs₁.extBut _ _ (D.f2 c hc).1 e
  refine wpAny_bind (D1.item n2 _ _ _ l1 t1₁ fun x h₂ tk2 px t1₂ hs₂ => wpAny_pure ?_)
  have hTO₂ : IsPair h₂ TO a b := hs₂.extBut _ _ D.TOi1 (hs₁.extBut _ _ D.TOz hTO)
  refine wpAny_bind (wpAny_seqItems hTO₂ rfl ?_)
  refine wpAny_bind (wpAny_updateSeq_pair hTO₂ fun h₃ hTO₃ hs₃ => ?_)
  refine wpAny_bind (wpAny_letGo (wpAny_pure ?_))
  refine wpAny_bind (wpAny_bind (wpAny_onRaise ?_))
  show wpAny _ _ (Builtin.SmallTypes.nextOf (.ref i2) >>= _) _ _ _
  have t2₃ : T2 n2 h₃ := D2.frame _ _ _ t2₁ fun c hc o e => hs₃.extBut _ _ (D.f2 c hc).2.1 (hs₂.extBut _ _ (D.f2 c hc).2.2 e)
  refine wpAny_bind (D2.done _ _ _ t2₃ fun h₄ e hs₄ he => ?_)
  obtain ⟨oe, hoe, hce⟩ := he
  have hz₄ : IsZip h₄ z TI TO .ellipsis := hs₄ _ _ D.i2z.symm (hs₃.extBut _ _ D.TOz.symm (hs₂.extBut _ _ D.i1z.symm hz₁))
  have hez : e ≠ z := fun x => by subst x; rw [hz₄] at hoe; cases hoe; simp at hce
  refine wpAny_setField_rec hz₄ (by simp) fun h₅ _ hs₅ => hE h₅ e _ (fun c o c1 c2 c3 c4 x => hs₅.extBut _ _ c1 (hs₄ _ _ c4 (hs₃.extBut _ _ c2 (hs₂.extBut _ _ c3 (hs₁.extBut _ _ c1 x))))) ⟨oe, hs₅.extBut _ _ hez hoe, hce⟩
end
section
variable {prog : Program} {w : World} {A : Around} {E : Value → Shared → Prop} {s : Shared} {z TI TO i1 i2 : Addr} {fp1 fp2 : List Addr} {n1 n2 : Nat} {P1 P2 : Nat → Value → Prop} {T1 T2 : Nat → Heap → Prop} {k : Nat} {a b : Value}
theorem pyNext_zipD_item {Q : Option Value → Shared → Prop} (D1 : Draws prog w A.in1 i1 fp1 n1 P1 T1) (D2 : Draws prog w A.in1 i2 fp2 n2 P2 T2) (D : Side z TI TO i1 i2 fp1 fp2)
    (hz : IsZip s.heap z TI TO .none) (hTI : IsPair s.heap TI (.ref i1) (.ref i2)) (hTO : IsPair s.heap TO a b) (t1 : T1 k s.heap) (t2 : T2 k s.heap) (l1 : k < n1) (l2 : k < n2)
    (hQ : ∀ x y h' tk, P1 k x → P2 k y → IsZip h' z TI TO (rawInt s.heap.objs.size) → IsPair h' TO x y → T1 (k + 1) h' → T2 (k + 1) h' → IsPair h' s.heap.objs.size x y → h'.objs.size = s.heap.objs.size + 1 →
      (∀ c o, c ≠ z → c ≠ TO → c ≠ i1 → c ≠ i2 → s.heap.get? c = some o → h'.get? c = some o) → Q (some (.ref s.heap.objs.size)) { s with heap := h', toks := tk }) : wpAny (model prog w) A (pyNext (.ref z)) Q E s := by
  have hT : s.TypeIs (.ref z) "zip" := ⟨_, hz, rfl⟩
  unfold pyNext
  exact wpAny_bind (wpAny_attempt (wpAny_callSpecial?_slot (name := Str.ofString "__next__") hT F.slot_zip_next
    (wpAny_call_entry F.slot_zip_next hT F.entry_zip_next (zipD_item D1 D2 D hz hTI hTO t1 t2 l1 l2 fun x y h' tk p1 p2 a1 a2 a3 a4 a5 a6 a7 => wpAny_pure (hQ x y h' tk p1 p2 a1 a2 a3 a4 a5 a6 a7)) (F.args_zip_next_1 _))))
theorem pyNext_zipD_end {Q : Option Value → Shared → Prop} (D1 : Draws prog w A.in1 i1 fp1 n1 P1 T1) (D2 : Draws prog w A.in1 i2 fp2 n2 P2 T2) (D : Side z TI TO i1 i2 fp1 fp2)
    (hz : IsZip s.heap z TI TO .none) (hTI : IsPair s.heap TI (.ref i1) (.ref i2)) (hTO : IsPair s.heap TO a b) (t1 : T1 k s.heap) (t2 : T2 k s.heap) (hk : k = n1 ∨ k < n1 ∧ k = n2)
    (hQ : ∀ h' tk, (∀ c o, c ≠ z → c ≠ TO → c ≠ i1 → c ≠ i2 → s.heap.get? c = some o → h'.get? c = some o) → Q none { s with heap := h', toks := tk }) : wpAny (model prog w) A (pyNext (.ref z)) Q E s := by
  have hT : s.TypeIs (.ref z) "zip" := ⟨_, hz, rfl⟩
  unfold pyNext
  rcases hk with rfl | ⟨h1, rfl⟩
  · refine wpAny_bind (wpAny_attempt (wpAny_callSpecial?_slot (name := Str.ofString "__next__") hT F.slot_zip_next
      (wpAny_call_entry F.slot_zip_next hT F.entry_zip_next (zipD_end D1 D2 D hz hTI hTO t1 fun h' e hk he => ?_) (F.args_zip_next_1 _))))
    obtain ⟨o, ho, hc⟩ := he
    refine wpAny_bind (wpAny_isInstance (T := "StopIteration") (b := true) ⟨o, ho, hc⟩ isSubtype_stop ?_)
    exact wpAny_pure (hQ _ s.toks hk)
  · refine wpAny_bind (wpAny_attempt (wpAny_callSpecial?_slot (name := Str.ofString "__next__") hT F.slot_zip_next
      (wpAny_call_entry F.slot_zip_next hT F.entry_zip_next (zipD_end2 D1 D2 D hz hTI hTO t1 h1 t2 fun h' e tk hk he => ?_) (F.args_zip_next_1 _))))
    obtain ⟨o, ho, hc⟩ := he
    refine wpAny_bind (wpAny_isInstance (T := "StopIteration") (b := true) ⟨o, ho, hc⟩ isSubtype_stop ?_)
    exact wpAny_pure (hQ _ tk hk)
end
theorem meets_zip_lt (l1 l2 : Addr) (xs ys : Array Value) :
    Meets (Builtin.«zip.__new__» ⟨[.type "zip", .ref l1, .ref l2], []⟩) (fun _ R s => s.heap.IsList l1 xs ∧ s.heap.IsTuple l2 ys ∧
      R (.ok (.ret (.ref (s.heap.objs.size + 4)))) { s with heap := ((((s.heap.push { cls := .type "list_iterator", data := .fields #[.ref l1, .int 0 0] }).push { cls := .type "tuple_iterator", data := .fields #[.ref l2, .int 0 0] }).push { cls := .type "tuple", data := .seq #[.ref s.heap.objs.size, .ref (s.heap.objs.size + 1)] }).push { cls := .type "tuple", data := .seq #[.none, .none] }).push { cls := .type "zip", data := .fields #[.none, .bool false, .bool false, .ref (s.heap.objs.size + 2), .ref (s.heap.objs.size + 3)] } }) :=
  .of_wp fun prog w A R s h => by
    obtain ⟨hp, g, d, tk, os⟩ := s; obtain ⟨hl1, hl2, h⟩ := h
    have hsub := sub_zip
    have hL1 : Heap.IsList (Shared.heap ⟨hp, g, d, tk, os⟩) l1 xs := hl1
    have hL2 : Heap.IsTuple (Shared.heap ⟨hp.push { cls := .type "list_iterator", data := .fields #[.ref l1, .int 0 0] }, g, d, tk, os⟩) l2 ys := Heap.IsTuple.push hl2 _
    wp_walk using wpAny_pyIter_list hL1, wpAny_pyIter_tuple hL2
    refine ⟨_, rfl, ?_⟩
    simp only [Heap.size_push] at *
    exact h
section
variable {prog : Program} {w : World} {A : Around} {E : Value → Shared → Prop} {s : Shared}
theorem call_zip_lt {l1 l2 : Addr} {xs ys : Array Value} {Q : Value → Shared → Prop} (hl1 : s.heap.IsList l1 xs) (hl2 : s.heap.IsTuple l2 ys)
    (h : ∀ h', IsZip h' (s.heap.objs.size + 4) (s.heap.objs.size + 2) (s.heap.objs.size + 3) .none → IsPair h' (s.heap.objs.size + 2) (.ref s.heap.objs.size) (.ref (s.heap.objs.size + 1)) →
      IsPair h' (s.heap.objs.size + 3) .none .none → h'.IsListIter s.heap.objs.size l1 0 → h'.IsTupleIter (s.heap.objs.size + 1) l2 0 →
      (∀ c o, s.heap.get? c = some o → h'.get? c = some o) → Q (.ref (s.heap.objs.size + 4)) { s with heap := h' }) :
    wpAny (model prog w) A (call (.type "zip") [.ref l1, .ref l2]) Q E s := by
  refine callType_new F.called_zip (by decide) (F.typeCall_zip_2 _ _) (F.newCall_zip_2 _ _) (fun obj => F.args_object_init_3 obj _ _) F.entry_zip_new (meets_zip_lt l1 l2 xs ys) ⟨hl1, hl2, ?_⟩
  have g5 : ∀ (h : Heap) (o : Obj) (n : Nat), h.objs.size = n → o.isFreed = false → (h.push o).get? n = some o := fun h o n e f => by subst e; exact Heap.get?_push_size _ f
  have z1 : ∀ (h : Heap) (o : Obj) (n : Nat), h.objs.size = n → (h.push o).objs.size = n + 1 := fun h o n e => by rw [Heap.size_push, e]
  have y1 := z1 s.heap { cls := .type "list_iterator", data := .fields #[.ref l1, .int 0 0] } _ rfl
  have y2 := z1 _ { cls := .type "tuple_iterator", data := .fields #[.ref l2, .int 0 0] } _ y1
  have y3 := z1 _ { cls := .type "tuple", data := .seq #[.ref s.heap.objs.size, .ref (s.heap.objs.size + 1)] } _ y2
  have y4 := z1 _ { cls := .type "tuple", data := .seq #[.none, .none] } _ y3
  have e5 := g5 _ { cls := .type "zip", data := .fields #[.none, .bool false, .bool false, .ref (s.heap.objs.size + 2), .ref (s.heap.objs.size + 3)] } _ y4 rfl
  show _ ∧ _
  exact ⟨⟨_, e5, rfl⟩, h _ e5 (Heap.get?_push_of_some _ (Heap.get?_push_of_some _ (g5 _ _ _ y2 rfl))) (Heap.get?_push_of_some _ (g5 _ _ _ y3 rfl))
    ⟨_, Heap.get?_push_of_some _ (Heap.get?_push_of_some _ (Heap.get?_push_of_some _ (Heap.get?_push_of_some _ (g5 _ _ _ rfl rfl)))), rfl, rfl⟩
    ⟨_, Heap.get?_push_of_some _ (Heap.get?_push_of_some _ (Heap.get?_push_of_some _ (g5 _ _ _ y1 rfl))), rfl, rfl⟩
    fun c o x => Heap.get?_push_of_some _ (Heap.get?_push_of_some _ (Heap.get?_push_of_some _ (Heap.get?_push_of_some _ (Heap.get?_push_of_some _ x))))⟩
end
theorem Inv.turnedF {X : Cx} {pins : List (Addr × Obj)} {σ : St} {H : Hp} {s : Shared} {fp : List Addr} {h' : Heap} {t' : Nat} (I : Inv X pins σ H s) (k : ∀ b u, b ∉ fp → s.heap.get? b = some u → h'.get? b = some u) (hf : ∀ b ∈ fp, FpOk X pins H b) : Inv X pins σ H { s with heap := h', toks := t' } := by
  have nit : ∀ b u, H b = some u → b ∉ fp := fun b u e z => by rw [(hf b z).1] at e; cases e
  refine I.step (g' := s.gens) (d' := s.drawn) (ch := fp) (fun b hb => ?_) (fun b o _ _ hc e _ => k b o hc e) (fun b o _ _ hc e _ => ⟨o.slots, k b o hc e⟩) (fun _ _ _ _ n => n)
    (fun b o hc e => ⟨o, k b o hc e⟩) (fun _ _ e => e) (fun _ _ _ e => e) (fun b ps e => ⟨#[], by rw [e]; simp⟩) (fun m hm => ?_) (fun b u e => ?_) I.bare
  · obtain ⟨f0, f1, f2, f3, f4, f5⟩ := hf b hb
    exact ⟨f3, f1, f4, f5⟩
  · obtain ⟨o, es, ep, ho, r⟩ := hm
    exact ⟨o, es, ep, k _ o (fun z => (hf _ z).2.1 rfl) ho, r⟩
  · refine (I.hok b u e).stay (fun c v hc q => k c v ?_ q) (fun c q => q) fun c xs q => q
    rcases hc with z | z
    · rw [z]; exact nit b u e
    · exact nit c _ z
def SqB (tp : Bool) (K : PySem.W.Frag) (H : Hp) (b : Addr) (ys : List V) : Prop := if tp = true then SqT K H b ys else SqL K H b ys
def ItB (tp : Bool) (h : Heap) (it b : Addr) (i : Nat) : Prop := if tp = true then h.IsTupleIter it b i else h.IsListIter it b i
def Itz (K : PySem.W.Frag) (tp : Bool) (a b : Addr) : It :=
  ⟨fun i H => ∃ xs ys x y, SqL K H a xs ∧ SqB tp K H b ys ∧ xs[i]? = some x ∧ ys[i]? = some y,
   fun i H x H' => ∃ T x1 y1, x = .ref T ∧ H T = none ∧ H' = upd H T (.tup [x1, y1]) ∧ (∀ xs, SqL K H a xs → xs[i]? = some x1) ∧ (∀ ys, SqB tp K H b ys → ys[i]? = some y1),
   fun i H => ∃ xs ys, SqL K H a xs ∧ SqB tp K H b ys ∧ (i = xs.length ∨ i < xs.length ∧ i = ys.length)⟩
theorem ad_ne {n i j : Nat} (h : i ≠ j) : n + i ≠ n + j := by omega
theorem ad_lt {a n : Nat} (i : Nat) (h : a < n) : a ≠ n + i := by omega
theorem side_new {n a b : Nat} (ha : a < n) (hb : b < n) : Side (n + 4) (n + 2) (n + 3) n (n + 1) [n, a] [n + 1, b] where
  TIz := ad_ne (by decide)
  TOz := ad_ne (by decide)
  i1z := ad_ne (n := n) (i := 0) (by decide)
  i2z := ad_ne (by decide)
  TITO := ad_ne (by decide)
  TIi1 := ad_ne (n := n) (j := 0) (by decide)
  TIi2 := ad_ne (by decide)
  TOi1 := ad_ne (n := n) (j := 0) (by decide)
  TOi2 := ad_ne (by decide)
  i12 := ad_ne (n := n) (i := 0) (by decide)
  f1 := fun c hc => by
    rcases List.mem_cons.mp hc with z | z
    · subst z; exact ⟨ad_ne (i := 0) (by decide), ad_ne (i := 0) (by decide), ad_ne (i := 0) (by decide)⟩
    · have z' : c = a := by simpa using z
      subst z'; exact ⟨ad_lt 4 ha, ad_lt 3 ha, ad_lt 1 ha⟩
  f2 := fun c hc => by
    rcases List.mem_cons.mp hc with z | z
    · subst z; exact ⟨ad_ne (by decide), ad_ne (by decide), ad_ne (j := 0) (by decide)⟩
    · have z' : c = b := by simpa using z
      subst z'; exact ⟨ad_lt 4 hb, ad_lt 3 hb, ad_lt 0 hb⟩
theorem draws2 {X : Cx} {pins : List (Addr × Obj)} {σ : St} {H : Hp} {s : Shared} (I : Inv X pins σ H s) (hc : X.calm = true) {tp : Bool} {b it : Addr} {ys : List V} (hq : SqB tp X.K H b ys) (hne : b ≠ it) :
    ∃ (its : List Value) (T2 : Nat → Heap → Prop), Vals ys its ∧ Draws X.prog X.w X.A.in1 it [it, b] its.length (fun i v => its[i]? = some v) T2 ∧ (∀ i, ItB tp s.heap it b i → T2 i s.heap) ∧ ∀ i h, T2 i h → ItB tp h it b i := by
  cases tp with
  | true =>
    obtain ⟨its, rv, p, hz⟩ := I.tuple (show SqT X.K H b ys from hq)
    have D := drawsTup (prog := X.prog) (w := X.w) (A := X.A.in1) (show X.A.in1.handled = none from I.ok.hd hc) it b hne its.toArray
    refine ⟨its, fun i h => h.IsTupleIter it b i ∧ h.IsTuple b its.toArray, rv, ?_, fun i h => ⟨h, (show s.heap.IsTuple b its.toArray from p)⟩, fun i h t => t.1⟩
    have e : its.toArray.size = its.length := List.size_toArray
    rw [e] at D
    exact ⟨D.live, D.frame, fun i s Q E hi st hQ => D.item i s Q E hi st fun x h' tk hp => hQ x h' tk (by simpa using hp), D.done⟩
  | false =>
    obtain ⟨its, rv, p, hz⟩ := I.list (show SqL X.K H b ys from hq)
    have D := Draws.list (prog := X.prog) (w := X.w) (A := X.A.in1) (show X.A.in1.handled = none from I.ok.hd hc) it b hne its.toArray
    refine ⟨its, fun i h => h.IsListIter it b i ∧ h.IsList b its.toArray, rv, ?_, fun i h => ⟨h, p.isList⟩, fun i h t => t.1⟩
    have e : its.toArray.size = its.length := List.size_toArray
    rw [e] at D
    exact ⟨D.live, D.frame, fun i s Q E hi st hQ => D.item i s Q E hi st fun x h' tk hp => hQ x h' tk (by simpa using hp), D.done⟩
theorem SqB.inj {X : Cx} {pins : List (Addr × Obj)} {σ : St} {H : Hp} {s : Shared} (I : Inv X pins σ H s) {tp : Bool} {b : Addr} {ys zs : List V} (h1 : SqB tp X.K H b ys) (h2 : SqB tp X.K H b zs) : ys = zs := by
  cases tp with
  | true => exact I.tuple_inj (show SqT X.K H b ys from h1) (show SqT X.K H b zs from h2)
  | false => exact I.list_inj (show SqL X.K H b ys from h1) (show SqL X.K H b zs from h2)
theorem ItB.keep {tp : Bool} {h h' : Heap} {it b : Addr} {i : Nat} (x : ItB tp h it b i) (e : ∀ o, h.get? it = some o → h'.get? it = some o) : ItB tp h' it b i := by
  cases tp with
  | true => exact (show h.IsTupleIter it b i from x).at e
  | false => exact (show h.IsListIter it b i from x).at e
theorem ItB.obj {tp : Bool} {h : Heap} {it b : Addr} {i : Nat} (x : ItB tp h it b i) : ∃ o, h.get? it = some o ∧ ∀ v, o.data ≠ .cell v := by
  cases tp with
  | true => obtain ⟨o, e, c, d⟩ := (show h.IsTupleIter it b i from x); exact ⟨o, e, fun v z => by rw [d] at z; cases z⟩
  | false => obtain ⟨o, e, c, d⟩ := (show h.IsListIter it b i from x); exact ⟨o, e, fun v z => by rw [d] at z; cases z⟩
structure Zn (n a b : Nat) (tp : Bool) (i : Nat) (h : Heap) : Prop where
  zz : IsZip h (n + 4) (n + 2) (n + 3) .none
  ti : IsPair h (n + 2) (.ref n) (.ref (n + 1))
  to : ∃ u v, IsPair h (n + 3) u v
  i1 : h.IsListIter n a i
  i2 : ItB tp h (n + 1) b i
theorem turn_zip {P : Program} {w : World} {K : PySem.W.Frag} {elts : List Expr} {kk : Nat} {pos : Pos} {n a b : Nat} (tp : Bool) (ha : a < n) (hb : b < n) : Turn P w K (.Tuple elts kk pos) (Itz K tp a b) [n + 4, n + 2, n + 3, n, n + 1] (n + 4) (Zn n a b tp) where
  mem := by simp
  obj := fun i h st c hc => by
    have hc' : c = n + 4 ∨ c = n + 2 ∨ c = n + 3 ∨ c = n ∨ c = n + 1 := by simpa using hc
    rcases hc' with z | z | z | z | z
    · rw [z]; exact ⟨_, st.zz, fun v z => by cases z⟩
    · rw [z]; exact ⟨_, st.ti, fun v z => by cases z⟩
    · rw [z]; obtain ⟨u, v, e⟩ := st.to; exact ⟨_, e, fun v z => by cases z⟩
    · rw [z]; obtain ⟨o, e, c, d⟩ := st.i1; exact ⟨o, e, fun v z => by rw [d] at z; cases z⟩
    · rw [z]; exact st.i2.obj
  keep := fun i h h' st k => ⟨k _ (by simp) _ st.zz, k _ (by simp) _ st.ti, let ⟨u, v, e⟩ := st.to; ⟨u, v, k _ (by simp) _ e⟩, st.i1.at fun o e => k _ (by simp) o e, st.i2.keep fun o e => k _ (by simp) o e⟩
  item := by
    intro X hP hw hK hc i pins s σ H E I hf st hg
    subst hP hw hK
    obtain ⟨xs, ys, x, y, hq1, hq2, hx, hy⟩ := hg
    obtain ⟨its, rv, p, hz⟩ := I.list hq1
    obtain ⟨u, hu, ru⟩ := rv.get hx
    obtain ⟨jts, T2, rv2, D2, to2, of2⟩ := draws2 I hc hq2 (ad_lt 1 hb)
    obtain ⟨v, hv, rw2⟩ := rv2.get hy
    have D1 := Draws.list (prog := X.prog) (w := X.w) (A := X.A.in1) (show X.A.in1.handled = none from I.ok.hd hc) n a (ad_lt 0 ha) its.toArray
    obtain ⟨t0, t00, hTO⟩ := st.to
    have l1 : i < its.toArray.size := by have := (List.getElem?_eq_some_iff.mp hu).1; simpa using this
    have l2 : i < jts.length := (List.getElem?_eq_some_iff.mp hv).1
    refine pyNext_zipD_item D1 D2 (side_new ha hb) st.zz st.ti hTO ⟨st.i1, p.isList⟩ (to2 _ st.i2) l1 l2 fun x' y' h' tk px py a1 a2 a3 a4 a5 a6 hk => ?_
    have hx' : x' = u := by
      have : its[i]? = some x' := by simpa using px
      rw [hu] at this; exact (Option.some.inj this).symm
    have hy' : y' = v := by
      have : jts[i]? = some y' := py
      rw [hv] at this; exact (Option.some.inj this).symm
    subst hx' hy'
    refine ⟨_, rfl, wpAny_letOwnedTupleGo_zip a1 fun h2 hz2 hs2 => ?_⟩
    have hTn : s.heap.get? s.heap.objs.size = none := by
      cases g : s.heap.get? s.heap.objs.size with
      | none => rfl
      | some o => exact absurd (Heap.lt_size g) (Nat.lt_irrefl _)
    have hzl : n + 4 < s.heap.objs.size := Heap.lt_size st.zz
    have hT2 : IsPair h2 s.heap.objs.size x' y' := (hs2.2 _ (Nat.ne_of_gt hzl)).trans a5
    have S := side_new ha hb
    refine ⟨.ref s.heap.objs.size, upd H s.heap.objs.size (.tup [x, y]), I.turnedT (fp := [n + 4, n + 2, n + 3, n, n + 1]) (h' := h2) (t' := tk) (fun c o hcf q => ?_) hf hTn ⟨by show 2 ≤ sizeLine; decide, [x', y'], .cons ru (.cons rw2 .nil), ⟨_, hT2, rfl, _, rfl⟩⟩, rfl,
      ⟨_, x, y, rfl, I.hok.free hTn, rfl, (fun zs hzs => by rw [I.list_inj hzs hq1]; exact hx), (fun zs hzs => by rw [SqB.inj I hzs hq2]; exact hy)⟩,
      ⟨hz2, (hs2.2 _ S.TIz).trans (hk _ _ S.TIz S.TITO S.TIi1 S.TIi2 st.ti), ⟨_, _, (hs2.2 _ S.TOz).trans a2⟩, a3.1.at fun o q => (hs2.2 n S.i1z).trans q, (of2 _ _ a4).keep fun o q => (hs2.2 (n + 1) S.i2z).trans q⟩, fun c hcf => ?_⟩
    · have c1 : c ≠ n + 4 := fun z => hcf (by simp [z])
      have c2 : c ≠ n + 3 := fun z => hcf (by simp [z])
      have c3 : c ≠ n := fun z => hcf (by simp [z])
      have c4 : c ≠ n + 1 := fun z => hcf (by simp [z])
      exact (hs2.2 c c1).trans (hk c o c1 c2 c3 c4 q)
    · rw [upd_ne]
      · exact (hf c hcf).1
      · rintro rfl
        have hc' : s.heap.objs.size = n + 4 ∨ s.heap.objs.size = n + 2 ∨ s.heap.objs.size = n + 3 ∨ s.heap.objs.size = n ∨ s.heap.objs.size = n + 1 := by simpa using hcf
        omega
  done := by
    intro X hP hw hK hc i pins s σ H E I hf st hg
    subst hP hw hK
    obtain ⟨xs, ys, hq1, hq2, hx⟩ := hg
    obtain ⟨its, rv, p, hz⟩ := I.list hq1
    obtain ⟨jts, T2, rv2, D2, to2, of2⟩ := draws2 I hc hq2 (ad_lt 1 hb)
    have e1 := rv.length
    have e2 := rv2.length
    have D1 := Draws.list (prog := X.prog) (w := X.w) (A := X.A.in1) (show X.A.in1.handled = none from I.ok.hd hc) n a (ad_lt 0 ha) its.toArray
    obtain ⟨t0, t00, hTO⟩ := st.to
    refine pyNext_zipD_end D1 D2 (side_new ha hb) st.zz st.ti hTO ⟨st.i1, p.isList⟩ (to2 _ st.i2) (by rw [List.size_toArray]; omega) fun h' tk hk => ⟨rfl, I.turnedF (fp := [n + 4, n + 2, n + 3, n, n + 1]) (fun c o hcf q => ?_) hf⟩
    exact hk c o (fun z => hcf (by simp [z])) (fun z => hcf (by simp [z])) (fun z => hcf (by simp [z])) (fun z => hcf (by simp [z])) q
  self := fun A i s Q E st h => wpAny_pyIter_zip st.zz h
section
variable {X : Cx} {elts : List Expr} {k : Nat} {tpos : Pos}
def iZip (K : PySem.W.Frag) (tp : Bool) (ta : TA) : TI := fun σ H R => ta σ H fun vs H1 => ∃ a b xs ys, vs = [.ref a, .ref b] ∧ SqL K H1 a xs ∧ SqB tp K H1 b ys ∧ R (Itz K tp a b) H1
theorem pi_zip {e f : Expr} {ta : TA} {p pos : Pos} (tp : Bool) (hg : Gl X "zip") (hm : X.mg "zip" = none) (ha : PA X [e, f] ta) (hs : starEach [e, f] X.env = [(false, eval e X.env), (false, eval f X.env)] := by rfl) (hs2 : starEach [f] X.env = [(false, eval f X.env)] := by rfl) :
    PI X (.Tuple elts k tpos) (.Call (.Name "zip" p) [e, f] [] pos) (iZip X.K tp ta) := by
  intro pins s σ H R I h
  refine Call_ (ld_blt I hg hm boot_zip (PyProof.Rows.callWith_type1 (thn (ha pos pins s σ H _ I h) fun us s1 ⟨vs, H1, I1, r1, q1⟩ => ?_) (by rw [hs, hs2]) (by rw [hs2]; rfl)))
  obtain ⟨a, b, xs, ys, rfl, hl, hb, q⟩ := q1
  cases r1 with
  | cons ra rr =>
  cases rr with
  | cons rb rn =>
  cases rn
  cases ra
  cases rb
  obtain ⟨its, rv, pa, hz⟩ := I1.list hl
  have fresh : ∀ (h' : Heap), (∀ c o, s1.heap.get? c = some o → h'.get? c = some o) → ∀ c ∈ [s1.heap.objs.size + 4, s1.heap.objs.size + 2, s1.heap.objs.size + 3, s1.heap.objs.size, s1.heap.objs.size + 1], FpOk X pins H1 c := fun h' hk c hc => by
    have hc' : s1.heap.objs.size ≤ c := by
      have : c = s1.heap.objs.size + 4 ∨ c = s1.heap.objs.size + 2 ∨ c = s1.heap.objs.size + 3 ∨ c = s1.heap.objs.size ∨ c = s1.heap.objs.size + 1 := by simpa using hc
      omega
    exact I1.fpOk hc' (I1.hok.fresh hc')
  have la : a < s1.heap.objs.size := let ⟨o, e, _⟩ := pa.isList; Heap.lt_size e
  cases tp with
  | true =>
    obtain ⟨jts, rv2, pb, hz2⟩ := I1.tuple (show SqT X.K H1 b ys from hb)
    have pb' : s1.heap.IsTuple b jts.toArray := pb
    have lb : b < s1.heap.objs.size := let ⟨o, e, _⟩ := pb'; Heap.lt_size e
    refine call_zip_lt pa.isList pb' fun h' a1 a2 a3 a4 a5 hk => ?_
    exact wpAny_pyIter_zip a1 ⟨_, [s1.heap.objs.size + 4, s1.heap.objs.size + 2, s1.heap.objs.size + 3, s1.heap.objs.size, s1.heap.objs.size + 1], _, _, H1, rfl, I1.kept (t' := s1.toks) hk, turn_zip true la lb, ⟨a1, a2, ⟨_, _, a3⟩, a4, a5⟩, fresh h' hk, q⟩
  | false =>
    obtain ⟨jts, rv2, pb, hz2⟩ := I1.list (show SqL X.K H1 b ys from hb)
    have lb : b < s1.heap.objs.size := let ⟨o, e, _⟩ := pb.isList; Heap.lt_size e
    refine call_zip_2 pa.isList pb.isList fun h' a1 a2 a3 a4 a5 _ hk => ?_
    exact wpAny_pyIter_zip a1 ⟨_, [s1.heap.objs.size + 4, s1.heap.objs.size + 2, s1.heap.objs.size + 3, s1.heap.objs.size, s1.heap.objs.size + 1], _, _, H1, rfl, I1.kept (t' := s1.toks) hk, turn_zip false la lb, ⟨a1, a2, ⟨_, _, a3⟩, a4, a5⟩, fresh h' hk, q⟩
end
end L2
end
section
set_option Elab.async false
set_option linter.all false
set_option maxRecDepth 100000
set_option maxHeartbeats 1000000
namespace L2
open PySem PySem.Spec PyProof.Rows
open AutoSeq1 (wpAny_loadPart')
theorem meets_enum_tup (l : Addr) (items : Array Value) (n : Nat) (dd : Option Addr) (sl : Array (Option Value)) :
    Meets (Builtin.«enumerate.__new__» ⟨[.type "enumerate", .ref l], []⟩) (fun _ R s => s.heap.get? l = some { cls := .type "tuple", dict := dd, data := .seq items n, slots := sl } ∧
      R (.ok (.ret (.ref (s.heap.push { cls := .type "tuple_iterator", data := .fields #[.ref l, .int 0 0] }).objs.size)))
        { s with heap := (s.heap.push { cls := .type "tuple_iterator", data := .fields #[.ref l, .int 0 0] }).push { cls := .type "enumerate", data := .fields #[.none, .bool false, .ref s.heap.objs.size, rawInt 0, .none, .none] } }) :=
  .of_wp fun prog w A R s h => by
    obtain ⟨hp, g, d, tk, os⟩ := s; obtain ⟨hl, h⟩ := h
    have hsub := sub_enumerate
    have hL : Heap.IsTuple (Shared.heap ⟨hp, g, d, tk, os⟩) l items := ⟨_, hl, rfl, n, rfl⟩
    wp_walk using wpAny_loadPart' hl
    refine wpAny_stack_any fun st => wpAny_pure ?_
    split
    · rename_i c _ _ _ _ _
      cases (c == Value.type "enumerate")
      · wp_walk using wpAny_loadPart' hl, wpAny_pyIter_tuple hL
        exact ⟨_, rfl, h⟩
      · wp_walk using wpAny_loadPart' hl, wpAny_pyIter_tuple hL
        exact ⟨_, rfl, h⟩
    · wp_walk using wpAny_loadPart' hl, wpAny_pyIter_tuple hL
      exact ⟨_, rfl, h⟩
section
variable {prog : Program} {w : World} {A : Around} {E : Value → Shared → Prop} {s : Shared}
theorem call_enum_tup {l : Addr} {items : Array Value} {Q : Value → Shared → Prop} (hl : s.heap.IsTuple l items)
    (h : ∀ h', IsEnum h' (s.heap.objs.size + 1) s.heap.objs.size 0 .none → h'.IsTupleIter s.heap.objs.size l 0 → (∀ b o, s.heap.get? b = some o → h'.get? b = some o) → Q (.ref (s.heap.objs.size + 1)) { s with heap := h' }) :
    wpAny (model prog w) A (call (.type "enumerate") [.ref l]) Q E s := by
  obtain ⟨⟨cls, dd, data, sl⟩, ho, hc, n, hd⟩ := hl
  have hc' : cls = .type "tuple" := hc
  have hd' : data = .seq items n := hd
  subst hc' hd'
  refine callType_new F.called_enumerate (by decide) (F.typeCall_enumerate_1 _) (F.newCall_enumerate_1 _) (fun obj => F.args_object_init_2 obj _) F.entry_enumerate_new (meets_enum_tup l items n dd sl) ⟨ho, ?_⟩
  have hz : (s.heap.push { cls := .type "tuple_iterator", data := .fields #[.ref l, .int 0 0] }).objs.size = s.heap.objs.size + 1 := Heap.size_push ..
  show _ ∧ _
  rw [hz]
  have he : IsEnum ((s.heap.push { cls := .type "tuple_iterator", data := .fields #[.ref l, .int 0 0] }).push { cls := .type "enumerate", data := .fields #[.none, .bool false, .ref s.heap.objs.size, rawInt 0, .none, .none] }) (s.heap.objs.size + 1) s.heap.objs.size 0 .none := by
    have := Heap.get?_push_size (s.heap.push { cls := .type "tuple_iterator", data := .fields #[.ref l, .int 0 0] }) (o := { cls := .type "enumerate", data := .fields #[.none, .bool false, .ref s.heap.objs.size, rawInt 0, .none, .none] }) rfl
    rw [hz] at this; exact this
  exact ⟨⟨_, he, rfl⟩, h _ he ⟨_, Heap.get?_push_of_some _ (Heap.get?_push_size _ rfl), rfl, rfl⟩ fun b o x => Heap.get?_push_of_some _ (Heap.get?_push_of_some _ x)⟩
end
def IteT (K : PySem.W.Frag) (a : Addr) : It :=
  ⟨fun i H => ∃ xs x, SqT K H a xs ∧ xs[i]? = some x, fun i H x H' => ∃ T y, x = .ref T ∧ H T = none ∧ H' = upd H T (.tup [.int i, y]) ∧ ∀ xs, SqT K H a xs → xs[i]? = some y, fun i H => ∃ xs, SqT K H a xs ∧ xs.length = i⟩
theorem turn_enumT {P : Program} {w : World} {K : PySem.W.Frag} {elts : List Expr} {k : Nat} {pos : Pos} {n a : Nat} (ha : a < n) : Turn P w K (.Tuple elts k pos) (IteT K a) [n + 1, n] (n + 1) (fun i h => (∃ old, IsEnum h (n + 1) n i old) ∧ h.IsTupleIter n a i) where
  mem := by simp
  obj := fun i h st b hb => by
    obtain ⟨⟨old, he⟩, hit⟩ := st
    rcases List.mem_cons.mp hb with z | z
    · subst z; exact ⟨_, he, fun v z => by cases z⟩
    · have z' : b = n := by simpa using z
      subst z'
      obtain ⟨o, e, c, d⟩ := hit
      exact ⟨o, e, fun v z => by rw [d] at z; cases z⟩
  keep := fun i h h' st kk => ⟨let ⟨old, he⟩ := st.1; ⟨old, kk _ (by simp) _ he⟩, st.2.at fun o x => kk n (by simp) o x⟩
  item := by
    intro X hP hw hK hc i pins s σ H E I hf st hg
    subst hP hw hK
    obtain ⟨xs, x, hq, hx⟩ := hg
    obtain ⟨its, rv, p, hz⟩ := I.tuple hq
    obtain ⟨u, hu, ru⟩ := rv.get hx
    obtain ⟨⟨old, he⟩, hit⟩ := id st
    have hei : n + 1 ≠ n := by omega
    have D := drawsTup (prog := X.prog) (w := X.w) (A := X.A.in1) (show X.A.in1.handled = none from I.ok.hd hc) n a (ad_lt 0 ha) its.toArray
    have hlt : i < its.toArray.size := by
      have := (List.getElem?_eq_some_iff.mp hu).1
      simpa using this
    refine wpAny_pyNext_enum_itemD D he ⟨hit, (show s.heap.IsTuple a its.toArray from p)⟩ hlt hei (fun z => by
      rcases List.mem_cons.mp z with y | y
      · exact hei y
      · have y' : n + 1 = a := by simpa using y
        exact absurd ha (by rw [← y']; exact Nat.not_lt.mpr (Nat.le_succ n))) fun x' h' tk hP ho hs' hT hsz hk => ?_
    have hx' : x' = u := by
      have : its[i]? = some x' := by simpa using hP
      rw [hu] at this; exact (Option.some.inj this).symm
    subst hx'
    refine ⟨_, rfl, wpAny_letOwnedTupleGo_enum ho fun h2 he2 hs2 => ?_⟩
    have hTn : s.heap.get? s.heap.objs.size = none := by
      cases g : s.heap.get? s.heap.objs.size with
      | none => rfl
      | some o => exact absurd (Heap.lt_size g) (Nat.lt_irrefl _)
    have hel : n + 1 < s.heap.objs.size := Heap.lt_size he
    have hT2 : h2.get? s.heap.objs.size = some { cls := .type "tuple", data := .seq #[.int i tk, x'] } := (hs2.2 _ (Nat.ne_of_gt hel)).trans hT
    refine ⟨.ref s.heap.objs.size, upd H s.heap.objs.size (.tup [.int i, x]), I.turnedT (fp := [n + 1, n]) (h' := h2) (t' := tk + 1) (fun b o hb q => ?_) hf hTn ⟨by show 2 ≤ sizeLine; decide, [.int i tk, x'], .cons ⟨tk, rfl⟩ (.cons ru .nil), ⟨_, hT2, rfl, _, rfl⟩⟩, rfl,
      ⟨_, x, rfl, I.hok.free hTn, rfl, fun ys hy => by rw [I.tuple_inj hy hq]; exact hx⟩, ⟨⟨_, by simpa using he2⟩, hs'.1.at fun o q => (hs2.2 n (Ne.symm hei)).trans q⟩, fun b hb => ?_⟩
    · have hbe : b ≠ n + 1 := fun z => hb (by simp [z])
      have hbi : b ≠ n := fun z => hb (by simp [z])
      exact (hs2.2 b hbe).trans (hk b o hbe hbi q)
    · rw [upd_ne]
      · exact (hf b hb).1
      · rintro rfl
        have hc' : s.heap.objs.size = n + 1 ∨ s.heap.objs.size = n := by simpa using hb
        omega
  done := by
    intro X hP hw hK hc i pins s σ H E I hf st hg
    subst hP hw hK
    obtain ⟨xs, hq, hx⟩ := hg
    obtain ⟨its, rv, p, hz⟩ := I.tuple hq
    obtain ⟨⟨old, he⟩, hit⟩ := id st
    have hl := rv.length
    have D := drawsTup (prog := X.prog) (w := X.w) (A := X.A.in1) (show X.A.in1.handled = none from I.ok.hd hc) n a (ad_lt 0 ha) its.toArray
    obtain ⟨f0, f1, f2, f3, f4, f5⟩ := hf n (by simp)
    have hi : its.toArray.size = i := by rw [List.size_toArray]; omega
    refine wpAny_pyNext_enum_endD D he ⟨by rw [hi]; exact hit, (show s.heap.IsTuple a its.toArray from p)⟩ fun h' eb => ⟨rfl, I.turned (t' := s.toks) (fun b o hb e => eb b o hb e) f0 f1 f3 f4 f5⟩
  self := fun A i s Q E st h => let ⟨old, he⟩ := st.1; wpAny_pyIter_enum he h
section
variable {X : Cx} {elts : List Expr} {k : Nat} {tpos : Pos}
def iEnumT (K : PySem.W.Frag) (ta : TA) : TI := fun σ H R => ta σ H fun vs H1 => ∃ a xs, vs = [.ref a] ∧ SqT K H1 a xs ∧ R (IteT K a) H1
theorem pi_enumT {e : Expr} {ta : TA} {p pos : Pos} (hg : Gl X "enumerate") (hm : X.mg "enumerate" = none) (ha : PA X [e] ta) (hs : starEach [e] X.env = [(false, eval e X.env)] := by rfl) : PI X (.Tuple elts k tpos) (.Call (.Name "enumerate" p) [e] [] pos) (iEnumT X.K ta) := by
  intro pins s σ H R I h
  refine Call_ (ld_blt I hg hm boot_enumerate (PyProof.Rows.callWith_type1 (thn (ha pos pins s σ H _ I h) fun us s1 ⟨vs, H1, I1, r1, q1⟩ => ?_) hs rfl))
  obtain ⟨a, xs, rfl, hl, q⟩ := q1
  obtain ⟨u, rfl, ru⟩ := vals1 r1
  cases ru
  obtain ⟨its, rv, p0, hz⟩ := I1.tuple hl
  have p1 : s1.heap.IsTuple a its.toArray := p0
  have la : a < s1.heap.objs.size := let ⟨o, e, _⟩ := p1; Heap.lt_size e
  refine call_enum_tup p1 fun h' he hit hk => ?_
  have I2 : Inv X pins σ H1 { s1 with heap := h' } := I1.kept (t' := s1.toks) hk
  refine wpAny_pyIter_enum he ⟨_, [s1.heap.objs.size + 1, s1.heap.objs.size], _, _, H1, rfl, I2, turn_enumT la, ⟨⟨_, he⟩, hit⟩, fun b hb => ?_, q⟩
  have hb' : s1.heap.objs.size ≤ b := by
    have : b = s1.heap.objs.size + 1 ∨ b = s1.heap.objs.size := by simpa using hb
    rcases this with z | z
    · rw [z]; exact Nat.le_succ _
    · rw [z]; exact Nat.le_refl _
  exact I1.fpOk hb' (I1.hok.fresh hb')
end
theorem comp_pairs {J : It} {xs ys : List V} {len : Nat} {Hk : Hp → Prop} (hgo : ∀ i H, Hk H → i < len → J.go i H) (hst : ∀ i H, Hk H → i = len → J.stop i H) (hyl : ∀ i H x H', Hk H → J.yld i H x H' → ∃ T x1 y1, x = .ref T ∧ H T = none ∧ H' = upd H T (.tup [x1, y1]) ∧ xs[i]? = some x1 ∧ ys[i]? = some y1)
    {caps : List Nat} {n : Nat} {σ : St} {g : TG} {tc : TT} {te : TE} {F : List V → Hp → Prop} {H1 : Hp} (cv : St) (k : Nat) (hn : len < 1000)
    (Pv : Nat → List V → Hp → Prop) (h0 : Pv 0 [] H1) (hk : ∀ i acc H, i ≤ len → Pv i acc H → Hk H ∧ acc.length ≤ i)
    (turn : ∀ (i : Nat) (x y : V) (T : Addr) (acc : List V) (H : Hp) (zs : St) (Nx : List V → St → Hp → Prop), (∀ acc' H' zs, zs.length = k → Pv (i + 1) acc' H' → Nx acc' (cv ++ zs) H') → xs[i]? = some x → ys[i]? = some y → zs.length = k → Pv i acc H → H T = none →
      g (.ref T) (cv ++ zs) (upd H T (.tup [x, y])) fun σ2 H3 => tc σ2 H3 fun b H4 => if b = true then te σ2 H4 fun y H5 => Nx (acc ++ [y]) σ2 H5 else Nx acc σ2 H4)
    (fin : ∀ acc H, Pv len acc H → F acc H) (hcv : capStart caps n σ = cv ++ List.replicate k none := by rfl) :
    ∃ W : Nat → Nat → List V → St → Hp → Prop, (∃ m, W 0 m [] (capStart caps n σ) H1) ∧ ∀ i m acc σ' H', W i m acc σ' H' →
      (J.stop i H' ∧ F acc H') ∨
      (J.go i H' ∧ acc.length < sizeLine ∧ ∀ x H2, J.yld i H' x H2 → g x σ' H2 fun σ2 H3 => tc σ2 H3 fun b H4 => if b = true then te σ2 H4 fun y H5 => ∃ m', m' < m ∧ W (i + 1) m' (acc ++ [y]) σ2 H5 else ∃ m', m' < m ∧ W (i + 1) m' acc σ2 H4) := by
  refine ⟨fun i m acc σ' H' => i ≤ len ∧ m = len - i ∧ (∃ ys, ys.length = k ∧ σ' = cv ++ ys) ∧ Pv i acc H', ⟨len, Nat.zero_le _, rfl, ⟨_, by simp, hcv⟩, h0⟩, ?_⟩
  rintro i m acc σ' H' ⟨hi, rfl, ⟨zs, hy, rfl⟩, pv⟩
  obtain ⟨hH, ha⟩ := hk i acc H' hi pv
  by_cases e : i = len
  · subst e
    exact .inl ⟨hst _ _ hH rfl, fin acc H' pv⟩
  · have hi' : i < len := by omega
    refine .inr ⟨hgo _ _ hH hi', by rw [sizeLine_eq]; omega, fun x H2 hy2 => ?_⟩
    obtain ⟨T, x1, y1, rfl, hT, rfl, e1, e2⟩ := hyl _ _ _ _ hH hy2
    exact turn i x1 y1 T acc H' zs (fun acc' σ2 H5 => ∃ m', m' < len - i ∧ (i + 1 ≤ len ∧ m' = len - (i + 1) ∧ (∃ ys, ys.length = k ∧ σ2 = cv ++ ys) ∧ Pv (i + 1) acc' H5)) (fun acc' H5 zs hz p => ⟨len - (i + 1), by omega, by omega, rfl, ⟨zs, hz, rfl⟩, p⟩) e1 e2 hy pv hT
section
variable {X : Cx}
theorem call_any (hc : X.calm = true) : CallR X (.builtin "any") (fun xs H Q => ∃ (p : Addr) (bs : List Bool), xs = [.ref p] ∧ SqL X.K H p (bs.map V.bl) ∧ Q (.bl (bs.any id)) H) := by
  intro pins s σ H xs us Q I r h
  obtain ⟨p, bs, rfl, hq, q⟩ := h
  obtain ⟨u, rfl, ru⟩ := vals1 r
  cases ru
  obtain ⟨its, rv, pl, hz⟩ := I.list hq
  have hp : p ≠ s.heap.objs.size := by
    obtain ⟨o, n, e, _⟩ := pl
    exact Nat.ne_of_lt (Heap.lt_size e)
  have vget : ∀ (i : Nat) (v : Value), its.toArray[i]? = some v → v = .bool (bs.getD i false) := fun i v e => by
    have e' : its[i]? = some v := by simpa using e
    have hl := rv.length
    have hi : i < bs.length := by
      have := (List.getElem?_eq_some_iff.mp e').1
      simp at hl; omega
    obtain ⟨u, e1, e2⟩ := rv.get (i := i) (x := .bl (bs.getD i false)) (by rw [List.getElem?_map]; simp [hi])
    rw [e'] at e1
    cases e1
    exact e2
  refine call_any_walk (wpAny_pyIter_list pl.isList ?_)
  refine ⟨s.heap.objs.size, _, _, its.toArray.size, _, _, fun i => bs.getD i false, rfl, Walks.list (A := X.A.in1) (I.ok.hd hc) _ p hp its.toArray, ⟨⟨_, Heap.get?_push_size _ rfl, rfl, rfl⟩, ?_⟩, fun i v s' Q' E' hv hQ => ?_, fun h' tk hk => ?_⟩
  · exact pl.isList.at fun o e => Heap.get?_push_of_some _ e
  · rw [vget i v hv]; exact wpAny_truthy_bool hQ
  · refine ⟨.bl (bs.any id), H, I.kept (t' := tk) (h' := h') fun b o e => hk b o (fun z => ?_) (Heap.get?_push_of_some _ e), ?_, q⟩
    · have : b = s.heap.objs.size := by simpa using z
      exact absurd (Heap.lt_size e) (by rw [this]; exact Nat.lt_irrefl _)
    · have hl := rv.length
      have hsz : its.toArray.size = bs.length := by simp at hl; simp [hl]
      have : (List.range its.toArray.size).any (fun i => bs.getD i false) = bs.any id := by
        rw [hsz]
        rw [Bool.eq_iff_iff]
        simp only [List.any_eq_true, List.mem_range, id]
        constructor
        · rintro ⟨i, hi, h⟩
          exact ⟨bs[i], List.getElem_mem hi, by simpa [hi] using h⟩
        · rintro ⟨b, hb, h⟩
          obtain ⟨i, hi, e⟩ := List.getElem_of_mem hb
          exact ⟨i, hi, by simpa [hi, e] using h⟩
      rw [this]; rfl
end
def rInD (K : PySem.W.Frag) : R2 := fun x y H Q => ∃ d ds, Rep K H d x ∧ Rep K H (.list ds) y ∧ SeqAt.shaped d = true ∧ SeqAt.shaped (.list ds) = true ∧ Q (.bl (ds.any fun e => PyData.eqv e d)) H
section
variable {X : Cx}
theorem op_inD (hu : X.A.units + 65 < cLine) : OpR X (compareOp .In) (rInD X.K) := by
  intro pins s σ H x y v u Q I rx ry h
  obtain ⟨d, ds, h1, h2, h3, h4, q⟩ := h
  obtain ⟨as, ra⟩ := Rep.reads I d x v h1 rx
  obtain ⟨bs, rb⟩ := Rep.reads I (.list ds) y u h2 ry
  exact SeqAt.in_list_reads rb ra (SeqAt.canLay_of_shaped h4) (SeqAt.canLay_of_shaped h3) (room_in_shaped h3 hu) ⟨.bl _, H, I, rfl, q⟩
theorem op_inDK (K' : PySem.W.Frag) (hK : X.K = K') (hu : X.A.units + 65 < cLine) : OpR X (compareOp .In) (rInD K') := by
  subst hK; exact op_inD hu
end
theorem Room.units65 {k : Nat} {A : Around} (r : Room k A) : A.units + 65 < cLine := by have := r.un; omega
end L2
end
section
set_option Elab.async false
set_option linter.all false
set_option maxRecDepth 100000
set_option maxHeartbeats 1000000
namespace L2
open PySem PySem.Spec PyProof.Rows
open PySem.AutoSeq1 (wpAny_loadPart')
open PySem.MeetsSeq PySem.MeetsSeq2 PySem.MeetsSeq3 PySem.SeqAt
theorem ints_at : ∀ {vs : List Value} {ns : List Int}, IntsAre vs ns → ∀ {i : Nat}, i < vs.length → ∃ t, vs[i]? = some (.int (ns.getD i 0) t)
  | _, _, .nil, i, h => absurd h (Nat.not_lt_zero _)
  | _, _, .cons a t r, 0, _ => ⟨t, rfl⟩
  | _, _, .cons a t r, i + 1, h => by
    obtain ⟨u, e⟩ := ints_at r (i := i) (Nat.lt_of_succ_lt_succ h)
    exact ⟨u, by simpa using e⟩
theorem lt_loopI (l b : Addr) (items items2 : Array Value) (n n2 : Nat) (dd dd2 : Option Addr) (sl sl2 : Array (Option Value)) (ns ms : List Int) (hi : IntsAre items.toList ns) (hj : IntsAre items2.toList ms) (hsz : items.size = items2.size) (k : Nat) :
    ∀ i : Nat, items.size - i = k → Meets (Builtin.«list.__eq__.loop» ⟨[.ref l, .ref b, rawInt i, rawInt 0], []⟩)
      (fun A R s => s.heap.get? l = some { cls := .type "list", dict := dd, data := .seq items n, slots := sl } ∧ s.heap.get? b = some { cls := .type "list", dict := dd2, data := .seq items2 n2, slots := sl2 } ∧
        R (.ok (.ret (.bool (HT.lexLt (ns.drop i) (ms.drop i))))) s) := by
  have z1 : items.size = ns.length := by rw [← hi.length]; simp
  have z2 : items2.size = ms.length := by rw [← hj.length]; simp
  induction k with
  | zero =>
    intro i hk prog w A R s h
    obtain ⟨hp, g, d, tk, os⟩ := s; obtain ⟨hl, hb, h⟩ := h
    wp_walk using wpAny_loadPart' hl, wpAny_loadPart' hb
    have hi1 : items[((i : Nat) : Int).toNat]? = none := by simp; omega
    have hi2 : items2[((i : Nat) : Int).toNat]? = none := by simp; omega
    have hd : ns.drop i = [] := by simp; omega
    have hd2 : ms.drop i = [] := by simp; omega
    rw [hd, hd2, HT.lexLt_nil_nil] at h
    rw [hi1, hi2]
    wp_walk using wpAny_loadPart' hl, wpAny_loadPart' hb
    show R (.ok (.ret (.bool (decide (items.size < items2.size))))) _
    rw [hsz]
    simpa using h
  | succ k ih =>
    intro i hk prog w A R s h
    obtain ⟨hp, g, d, tk, os⟩ := s; obtain ⟨hl, hb, h⟩ := h
    wp_walk using wpAny_loadPart' hl, wpAny_loadPart' hb
    have hlt : i < items.size := by omega
    have hlt2 : i < items2.size := by omega
    obtain ⟨t, et⟩ := ints_at hi (i := i) (by simpa using hlt)
    obtain ⟨u, eu⟩ := ints_at hj (i := i) (by simpa using hlt2)
    have hi1 : items[((i : Nat) : Int).toNat]? = some (.int (ns.getD i 0) t) := by simpa using et
    have hi2 : items2[((i : Nat) : Int).toNat]? = some (.int (ms.getD i 0) u) := by simpa using eu
    have hd : ns.drop i = ns.getD i 0 :: ns.drop (i + 1) := by
      rw [List.drop_eq_getElem_cons (by omega)]
      simp [show i < ns.length by omega]
    have hd2 : ms.drop i = ms.getD i 0 :: ms.drop (i + 1) := by
      rw [List.drop_eq_getElem_cons (by omega)]
      simp [show i < ms.length by omega]
    have hc : ((i : Int) + 1) = ((i + 1 : Nat) : Int) := by push_cast; rfl
    rw [hd, hd2, HT.lexLt_cons] at h
    rw [hi1, hi2]
    obtain ⟨e, he, hiff⟩ := HT.eqAt_int A.in1 ⟨hp, g, d, tk, os⟩ (ns.getD i 0) t (ms.getD i 0) u
    refine wpAny_bind (he prog w _ _ ?_)
    cases e with
    | true =>
      rw [if_pos (hiff.mp rfl)] at h
      wp_walk
      rw [hc]
      exact ⟨plainId_quiet plain_eq_loop _, codeAny_builtin entry_eq_loop (by
        rw [Around.under_plainId plain_eq_loop _]
        exact ih (i + 1) (by omega) prog w A R _ ⟨hl, hb, h⟩)⟩
    | false =>
      rw [if_neg (fun q => absurd (hiff.mpr q) Bool.false_ne_true)] at h
      wp_walk using wpAny_loadPart' hl, wpAny_loadPart' hb
      rw [hi1, hi2]
      have hri := HT.rcLt_int A.in1 ⟨hp, g, d, tk, os⟩ (ns.getD i 0) t (ms.getD i 0) u prog w
      wp_walk using hri
      simpa using h
theorem list_ltI (l b : Addr) (items items2 : Array Value) (n n2 : Nat) (dd dd2 : Option Addr) (sl sl2 : Array (Option Value)) (ns ms : List Int) (hi : IntsAre items.toList ns) (hj : IntsAre items2.toList ms) (hsz : items.size = items2.size) :
    Meets (Builtin.«list.__lt__» ⟨[.ref l, .ref b], []⟩)
      (fun A R s => s.heap.get? l = some { cls := .type "list", dict := dd, data := .seq items n, slots := sl } ∧ s.heap.get? b = some { cls := .type "list", dict := dd2, data := .seq items2 n2, slots := sl2 } ∧
        R (.ok (.ret (.bool (HT.lexLt ns ms)))) s) := by
  intro prog w A R s h
  obtain ⟨hp, g, d, tk, os⟩ := s; obtain ⟨hl, hb, h⟩ := h
  have f3 := AutoSeq1.sub_list_list
  wp_walk using wpAny_loadPart' hl, wpAny_loadPart' hb
  exact ⟨plainId_quiet plain_eq_loop _, codeAny_builtin entry_eq_loop (by
    rw [Around.under_plainId plain_eq_loop _]
    exact lt_loopI l b items items2 n n2 dd dd2 sl sl2 ns ms hi hj hsz _ 0 rfl prog w A R _ ⟨hl, hb, by simpa using h⟩)⟩
section
variable {prog : Program} {w : World} {A : Around} {E : Value → Shared → Prop} {s : Shared}
theorem lt_listInts {l b : Addr} {items items2 : Array Value} {ns ms : List Int} {Q : Value → Shared → Prop} (hl : s.heap.IsList l items) (hb : s.heap.IsList b items2) (hi : IntsAre items.toList ns) (hj : IntsAre items2.toList ms) (hsz : items.size = items2.size)
    (hu : A.units < cLine) (h : Q (.bool (HT.lexLt ns ms)) s) : wpAny (model prog w) A (compareOp .Lt (.ref l) (.ref b)) Q E s := by
  obtain ⟨⟨cls, dd, data, sl⟩, ho, hc, n, hd⟩ := id hl
  obtain ⟨⟨cls2, dd2, data2, sl2⟩, ho2, hc2, n2, hd2⟩ := id hb
  simp only at hc hd hc2 hd2
  subst hc hd hc2 hd2
  exact richCompare_meets_room (op := .Lt) ⟨_, ho, rfl⟩ ⟨_, ho2, rfl⟩ PySem.F.slot_list_lt PySem.F.entry_list_lt (PySem.F.args_list_lt_2 _ _) (list_ltI l b items items2 n n2 dd dd2 sl sl2 ns ms hi hj hsz)
    ⟨ho, ho2, show Value.bool (HT.lexLt ns ms) ≠ Value.notImplemented ∧ Q (.bool (HT.lexLt ns ms)) s from ⟨(fun x => nomatch x), h⟩⟩ hu
end
section
open MyS PySem.W
variable {prog : Program} {w : World} {A : Around} {E : Value → Shared → Prop} {s : Shared}
theorem sort_genX {κ : SortKind} {a : Addr} {vs : List Value} {lt : Nat → Nat → Bool} {n : Nat} {P : PySem.Fin → Shared → Prop} (ho : s.heap.get? a = some (seqObj "list" vs.toArray n)) (O : TotalOn lt vs.length) (h64 : vs.length < 64)
    (hK : ∀ G, (∀ b o, b ≠ a → s.heap.get? b = some o → G.get? b = some o) → 2 ≤ vs.length → ∀ (Q : SortKind → Shared → Prop) (E' : Value → Shared → Prop), Q κ { s with heap := G } → wpAny (model prog w) A (keyKind' vs.toArray) Q E' { s with heap := G })
    (hC : ∀ G, (∀ b o, b ≠ a → s.heap.get? b = some o → G.get? b = some o) → ∀ i j, i < vs.length → j < vs.length → i ≠ j → ∀ C, C (lt i j) { s with heap := G } → kas_ask prog w A κ vs i j C { s with heap := G })
    (h : ∀ (p : List Nat) (h' : Heap) (e : Nat), p.Perm (List.range vs.length) → p.Pairwise (fun i j => lt i j = true) → (∀ b o, b ≠ a → s.heap.get? b = some o → h'.get? b = some o) →
      h'.get? a = some (seqObj "list" (p.map fun i => vs.getD i Value.none).toArray e) → P (.done (.ret .none)) { s with heap := h' }) :
    wpAny (model prog w) A (Builtin.«list.sort» ⟨[.ref a], []⟩) P E s := by
  have ha : a < s.heap.objs.size := Heap.lt_size ho
  rw [list_sort_plain]
  refine wpAny_bind (listItems_at ho rfl ?_)
  refine wpAny_bind (listUpdate_at ho rfl ?_ (by rw [List.size_toArray, sizeLine_eq]; omega) (Nat.zero_le _))
  obtain ⟨e1, ho1⟩ : ∃ e1, (s.heap.update a (Obj.mapSeq fun _ => (#[] : Array Value))).get? a = some (seqObj "list" #[] e1) := ⟨_, get?_update_seq ho fun _ => #[]⟩
  refine wpAny_bind (seqEpoch_at ho1 rfl ?_)
  refine wpAny_bind (wpAny_newTuple ?_ (by rw [sizeLine_eq]; simp; omega))
  refine wpAny_bind (wpAny_newList ?_ (by simp))
  refine wpAny_holding ?_
  show wpAny (model prog w) A _ P E { s with heap := ((s.heap.update a (Obj.mapSeq fun _ => #[])).push (seqObj "tuple" vs.toArray 0)).push (seqObj "list" #[] 0) }
  generalize hG : ((s.heap.update a (Obj.mapSeq fun _ => (#[] : Array Value))).push (seqObj "tuple" vs.toArray 0)).push (seqObj "list" #[] 0) = G
  have hG1 : G.get? a = some (seqObj "list" #[] e1) := by
    rw [← hG]
    exact Heap.get?_push_of_some _ (Heap.get?_push_of_some _ ho1)
  have hG2 : ∀ b o, b ≠ a → s.heap.get? b = some o → G.get? b = some o := fun b o hb e => by
    rw [← hG]
    exact Heap.get?_push_of_some _ (Heap.get?_push_of_some _ ((Heap.get?_update_other _ _ (Ne.symm hb)).trans e))
  have fin : ∀ (p : List Nat) (out : Array Value) (hout : out = (p.map fun i => vs.getD i Value.none).toArray), p.Perm (List.range vs.length) → p.Pairwise (fun i j => lt i j = true) →
      P (.done (.ret .none)) { s with heap := G.update a (Obj.mapSeq fun _ => out) } := fun p out hout h1 h2 => by
    subst hout
    have e3 := get?_update_seq hG1 fun _ => (p.map fun i => vs.getD i Value.none).toArray
    exact h p _ _ h1 h2 (fun b o hb e => (Heap.get?_update_other _ _ (Ne.symm hb)).trans (hG2 b o hb e)) e3
  dsimp only
  by_cases h2 : vs.toArray.size < 2
  · rw [if_pos h2, if_pos h2]
    refine wpAny_bind (wpAny_pure ?_)
    rw [StateT.run_pure]
    refine wpAny_bind (wpAny_pure ?_)
    dsimp only
    refine wpAny_bind (seqEpoch_at hG1 rfl ?_)
    refine wpAny_bind (listUpdate_at hG1 rfl ?_ (by simp) (by
      show ((vs.toArray.zip vs.toArray).map (·.2)).size ≤ sizeLine + 1
      rw [sizeLine_eq]; simp; omega))
    simp only [bne_self_eq_false, Bool.false_eq_true, if_false]
    refine wpAny_pure (fin (List.range vs.length) _ ?_ (List.Perm.refl _) ?_)
    · show (vs.toArray.zip vs.toArray).map (·.2) = _
      match vs, h2 with
      | [], _ => simp
      | [v], _ => simp [List.range_succ]
      | _ :: _ :: _, h2 => simp at h2; omega
    · have : vs.length < 2 := by simpa using h2
      match hv : vs.length, this with
      | 0, _ => simp
      | 1, _ => simp [List.range_succ]
  · rw [if_neg h2, if_neg h2]
    have h2' : 2 ≤ vs.length := by simpa using h2
    refine wpAny_bind (hK G hG2 h2' _ _ ?_)
    show wpAny _ _ (StateT.run sortRuns' (SortSt.mk' κ (vs.toArray.zip vs.toArray) #[] 7 none) >>= _) _ _ _
    obtain ⟨so1, so2⟩ := sort_ok O h2'
    refine wpAny_bind (wpAny_mono (kat_run (ks := vs) (vs := vs) (Q := fun st' s' => s' = { s with heap := G } ∧ failedOf st' = none ∧ ∃ p : Array Nat, Pm p vs.length ∧ Up lt p vs.length ∧ arrOf st' = p.map (kas_item (vs.toArray.zip vs.toArray)))
      (G := fun p s' => s' = { s with heap := G } ∧ Pm p vs.length ∧ Up lt p vs.length) rfl h2' h64 (fun p st' s' _ q1 q2 q3 => ⟨q3.1, q2, p, q3.2.1, q3.2.2, q1⟩) ?_) ?_ fun _ _ e => e)
    · refine kas_of (N := vs.length) (lt := lt) (fun i j hi hj hij C hC' => ?_) _ _ (sort_t O h2') ⟨rfl, so1, so2⟩
      exact hC G hG2 i j hi hj hij C hC'
    · rintro ⟨⟨⟩, st'⟩ s' ⟨rfl, hf, p, q1, q2, q3⟩
      dsimp only
      have hout := kat_snds (ks := vs) (vs := vs) rfl q3
      refine wpAny_bind (seqEpoch_at hG1 rfl ?_)
      refine wpAny_bind (listUpdate_at hG1 rfl ?_ (by simp) (by
        rw [hout, List.size_toArray, List.length_map, sizeLine_eq]
        have := q1.size
        simp
        omega))
      rw [hf]
      simp only [bne_self_eq_false, Bool.false_eq_true, if_false]
      refine wpAny_pure (fin p.toList _ hout q1 ?_)
      rw [List.pairwise_iff_getElem]
      intro i j hi hj hij
      have hi' : i < p.size := by simpa using hi
      have hj' : j < p.size := by simpa using hj
      have := q2 i j hij (by rw [← q1.size]; exact hj')
      rw [gg_eq hi', gg_eq hj'] at this
      simpa using this
end
def ltP (a b : List Int) : Bool := if a.length = b.length then HT.lexLt a b else decide (a.length < b.length)
def keyP (ks : List (List Int)) (i j : Nat) : Bool := ltP (ks.getD i []) (ks.getD j [])
theorem lex_irr : ∀ a : List Int, HT.lexLt a a = false
  | [] => rfl
  | x :: a => by rw [HT.lexLt_cons, if_pos rfl]; exact lex_irr a
theorem lex_tr : ∀ {a b c : List Int}, a.length = b.length → b.length = c.length → HT.lexLt a b = true → HT.lexLt b c = true → HT.lexLt a c = true
  | [], [], _, _, _, h, _ => by cases h
  | [], _ :: _, _, e, _, _, _ => by cases e
  | _ :: _, [], _, e, _, _, _ => by cases e
  | x :: a, y :: b, [], _, e, _, _ => by cases e
  | x :: a, y :: b, z :: c, e1, e2, h1, h2 => by
    rw [HT.lexLt_cons] at h1 h2 ⊢
    by_cases xy : x = y
    · rw [if_pos xy] at h1
      by_cases yz : y = z
      · rw [if_pos yz] at h2
        rw [if_pos (xy.trans yz)]
        exact lex_tr (Nat.succ.inj e1) (Nat.succ.inj e2) h1 h2
      · rw [if_neg yz] at h2
        rw [xy, if_neg yz]; exact h2
    · rw [if_neg xy] at h1
      have l1 := of_decide_eq_true h1
      by_cases yz : y = z
      · rw [← yz, if_neg xy]; exact h1
      · rw [if_neg yz] at h2
        have l2 := of_decide_eq_true h2
        rw [if_neg (by omega)]; exact decide_eq_true (by omega)
theorem lex_tot : ∀ {a b : List Int}, a.length = b.length → a ≠ b → HT.lexLt a b = true ∨ HT.lexLt b a = true
  | [], [], _, h => absurd rfl h
  | [], _ :: _, e, _ => by cases e
  | _ :: _, [], e, _ => by cases e
  | x :: a, y :: b, e, h => by
    rw [HT.lexLt_cons, HT.lexLt_cons]
    by_cases xy : x = y
    · subst xy
      rw [if_pos rfl, if_pos rfl]
      exact lex_tot (Nat.succ.inj e) fun z => h (by rw [z])
    · rw [if_neg xy, if_neg (Ne.symm xy)]
      rcases Int.lt_or_gt_of_ne xy with z | z
      · exact .inl (decide_eq_true z)
      · exact .inr (decide_eq_true z)
theorem keyP_total {ks : List (List Int)} (nd : ks.Nodup) : MyS.TotalOn (keyP ks) ks.length where
  irr := fun i _ => by unfold keyP ltP; rw [if_pos rfl]; exact lex_irr _
  tr := fun i j k _ _ _ h1 h2 => by
    unfold keyP ltP at *
    generalize ks.getD i [] = a at *
    generalize ks.getD j [] = b at *
    generalize ks.getD k [] = c at *
    by_cases e1 : a.length = b.length <;> by_cases e2 : b.length = c.length
    · rw [if_pos e1] at h1; rw [if_pos e2] at h2
      rw [if_pos (e1.trans e2)]; exact lex_tr e1 e2 h1 h2
    · rw [if_neg e2] at h2
      have := of_decide_eq_true h2
      rw [if_neg (by omega)]; exact decide_eq_true (by omega)
    · rw [if_neg e1] at h1
      have := of_decide_eq_true h1
      rw [if_neg (by omega)]; exact decide_eq_true (by omega)
    · rw [if_neg e1] at h1; rw [if_neg e2] at h2
      have := of_decide_eq_true h1
      have := of_decide_eq_true h2
      rw [if_neg (by omega)]; exact decide_eq_true (by omega)
  tot := fun i j hi hj hne => by
    have e1 : ks.getD i [] = ks[i] := by simp [hi]
    have e2 : ks.getD j [] = ks[j] := by simp [hj]
    have hn : ks[i] ≠ ks[j] := fun z => hne ((List.getElem_inj nd).mp z)
    unfold keyP ltP
    rw [e1, e2]
    by_cases e : ks[i].length = ks[j].length
    · rw [if_pos e, if_pos e.symm]; exact lex_tot e hn
    · rw [if_neg e, if_neg (Ne.symm e)]
      rcases Nat.lt_or_gt_of_ne e with z | z
      · exact .inl (decide_eq_true z)
      · exact .inr (decide_eq_true z)
def PairL (h : Heap) (a : Addr) (v : Value) (k : List Int) : Prop := ∃ b o t n lb items, v = Value.ref b ∧ b ≠ a ∧ h.get? b = some o ∧ o.cls = .type "tuple" ∧ o.data = .seq #[.int (k.length : Int) t, .ref lb] n ∧ lb ≠ a ∧ h.IsList lb items ∧ IntsAre items.toList k
theorem PairL.keep {h h' : Heap} {a : Addr} {v : Value} {k : List Int} (p : PairL h a v k) (e : ∀ b o, b ≠ a → h.get? b = some o → h'.get? b = some o) : PairL h' a v k := by
  obtain ⟨b, o, t, n, lb, items, h1, h2, h3, h4, h5, h6, h7, h8⟩ := p
  exact ⟨b, o, t, n, lb, items, h1, h2, e b o h2 h3, h4, h5, h6, h7.at fun o q => e lb o h6 q, h8⟩
section
variable {prog : Program} {w : World} {A : Around} {E : Value → Shared → Prop} {s : Shared}
theorem reads_ints {h : Heap} : ∀ {vs : List Value} {ns : List Int}, IntsAre vs ns → ∃ as, ReadsAll h vs (ns.map PyData.int) as
  | _, _, .nil => ⟨_, .nil⟩
  | _, _, .cons a t r => let ⟨as, ra⟩ := reads_ints r; ⟨_, .cons (.int a t) ra⟩
theorem eqv_ints : ∀ (a b : List Int), PyData.eqv (.list (a.map PyData.int)) (.list (b.map PyData.int)) = decide (a = b)
  | [], [] => rfl
  | [], _ :: _ => rfl
  | _ :: _, [] => rfl
  | x :: a, y :: b => by
    have ih := eqv_ints a b
    simp only [PyData.eqv] at ih
    simp only [List.map_cons, PyData.eqv, PyData.eqvAll]
    rw [ih]
    by_cases h1 : x = y <;> by_cases h2 : a = b <;> simp [h1, h2]
end
section
open MyS PySem.W
variable {prog : Program} {w : World} {A : Around} {E : Value → Shared → Prop} {s : Shared}
theorem ints_depth (ns : List Int) : (PyData.list (ns.map PyData.int)).depth ≤ 5 ∧ (PyData.list (ns.map PyData.int)).canLay0 = true := by
  have g1 : ∀ ns : List Int, PyData.depthAll (ns.map PyData.int) ≤ 1 := by
    intro ns
    induction ns with
    | nil => decide
    | cons n ns ih => rw [List.map_cons]; simp only [PyData.depthAll, PyData.depth]; omega
  have g2 : ∀ ns : List Int, PyData.canLayAll0 (ns.map PyData.int) = true := by
    intro ns
    induction ns with
    | nil => rfl
    | cons n ns ih => rw [List.map_cons]; simp only [PyData.canLayAll0, PyData.canLay0, ih, Bool.and_self]
  have := g1 ns
  exact ⟨by simp only [PyData.depth]; omega, by simp only [PyData.canLay0]; exact g2 ns⟩
theorem lt_pairL {v u : Value} {k l : List Int} {a : Addr} {C : Bool → Shared → Prop} (hv : PairL s.heap a v k) (hu : PairL s.heap a u l) (e : k ≠ l) (hun : A.units + 20 < cLine) (h : C (ltP k l) s) :
    wpAny (model prog w) A (keyLt' (tuples' true) v u) C E s := by
  obtain ⟨b, o, t, n, lb, items, h1, h2, h3, h4, h5, h6, h7, h8⟩ := hv
  obtain ⟨b', o', t', n', lb', items', h1', h2', h3', h4', h5', h6', h7', h8'⟩ := hu
  subst h1; subst h1'
  refine kat_lt h3 h5 h3' h5' ?_
  unfold ltP at h
  have z1 : items.size = k.length := by rw [← h8.length]; simp
  have z2 : items'.size = l.length := by rw [← h8'.length]; simp
  have q := SeqAt.EqAt.int_int (A := A) (s := s) (k.length : Int) t (l.length : Int) t'
  by_cases hl : k.length = l.length
  · rw [if_pos hl] at h
    have eb : ((k.length : Int) == (l.length : Int)) = true := by rw [hl]; simp
    rw [eb] at q
    refine kat_cons (q prog w _ _ (kat_yes ?_))
    obtain ⟨as, ra⟩ := reads_ints (h := s.heap) h8
    obtain ⟨bs, rb⟩ := reads_ints (h := s.heap) h8'
    obtain ⟨o1, i1, i2, m1, i3⟩ := id h7
    obtain ⟨o2, j1, j2, m2, j3⟩ := id h7'
    obtain ⟨d1, c1⟩ := ints_depth k
    obtain ⟨d2, c2⟩ := ints_depth l
    have q2 := SeqAt.eqAt_reads _ _ A s (.ref lb) (.ref lb') _ _ (.list i1 i2 i3 ra) (.list j1 j2 j3 rb) c1 c2 (by omega)
    rw [eqv_ints, decide_eq_false e] at q2
    refine kat_cons (q2 prog w _ _ (kat_no ?_))
    refine kat_one _ _ (lt_listInts h7 h7' h8 h8' (by omega) (by omega) ?_)
    exact h
  · rw [if_neg hl] at h
    have eb : ((k.length : Int) == (l.length : Int)) = false := beq_eq_false_iff_ne.mpr (fun z => hl (by omega))
    rw [eb] at q
    refine kat_cons (q prog w _ _ (kat_no ?_))
    refine oneLt_int ?_
    have : decide ((k.length : Int) < (l.length : Int)) = decide (k.length < l.length) := decide_eq_decide.mpr (by omega)
    rw [this]; exact h
theorem sort_pairsL {a : Addr} {vs : List Value} {ks : List (List Int)} {n : Nat} {P : PySem.Fin → Shared → Prop} (ho : s.heap.get? a = some (seqObj "list" vs.toArray n)) (hl : ks.length = vs.length)
    (hp : ∀ (i : Nat) (v : Value), vs[i]? = some v → ∃ k, ks[i]? = some k ∧ PairL s.heap a v k) (nd : ks.Nodup) (h64 : vs.length < 64) (hun : A.units + 20 < cLine)
    (h : ∀ (p : List Nat) (h' : Heap) (e : Nat), p.Perm (List.range vs.length) → p.Pairwise (fun i j => keyP ks i j = true) → (∀ b o, b ≠ a → s.heap.get? b = some o → h'.get? b = some o) →
      h'.get? a = some (seqObj "list" (p.map fun i => vs.getD i Value.none).toArray e) → P (.done (.ret .none)) { s with heap := h' }) :
    wpAny (model prog w) A (Builtin.«list.sort» ⟨[.ref a], []⟩) P E s := by
  have hpG : ∀ G, (∀ b o, b ≠ a → s.heap.get? b = some o → G.get? b = some o) → ∀ i, i < vs.length → PairL G a (vs.getD i Value.none) (ks.getD i []) := fun G hG i hi => by
    obtain ⟨k, e, q⟩ := hp i vs[i] (List.getElem?_eq_getElem hi)
    have e1 : vs.getD i Value.none = vs[i] := by simp [hi]
    have e2 : ks.getD i [] = k := by rw [List.getD_eq_getElem?_getD, e]; rfl
    rw [e1, e2]
    exact q.keep hG
  have ne : ∀ i j, i < vs.length → j < vs.length → i ≠ j → ks.getD i [] ≠ ks.getD j [] := fun i j hi hj hij e => by
    have e1 : ks.getD i [] = ks[i] := by simp [show i < ks.length by omega]
    have e2 : ks.getD j [] = ks[j] := by simp [show j < ks.length by omega]
    rw [e1, e2] at e
    exact hij ((List.getElem_inj nd).mp e)
  have O := keyP_total nd
  rw [hl] at O
  refine sort_genX (κ := tuples' true) ho O h64 (fun G hG h2 Q E' hQ => ?_) (fun G hG i j hi hj hij C hC => lt_pairL (s := { s with heap := G }) (hpG G hG i hi) (hpG G hG j hj) (ne i j hi hj hij) hun hC) h
  have go : ∀ l : List Value, (∀ v ∈ l, ∃ k, PairL G a v k) → ∃ fs, KatTups G l fs ∧ (∀ v ∈ fs, ∃ k t, v = Value.int k t) ∧ fs.length = l.length := by
    intro l
    induction l with
    | nil => intro _; exact ⟨[], .nil, by simp, rfl⟩
    | cons v l ih =>
      intro hl
      obtain ⟨k, b, o, t, n, lb, items, q1, q2, q3, q4, q5, _⟩ := hl v (List.mem_cons_self ..)
      obtain ⟨fs, f1, f2, f3⟩ := ih fun u hu => hl u (List.mem_cons_of_mem _ hu)
      subst q1
      refine ⟨.int (k.length : Int) t :: fs, .cons q3 q4 q5 rfl f1, fun u hu => ?_, by simp [f3]⟩
      rcases List.mem_cons.mp hu with rfl | hu
      · exact ⟨_, t, rfl⟩
      · exact f2 u hu
  obtain ⟨fs, f1, f2, f3⟩ := go vs fun v hv => by
    obtain ⟨i, hi, e⟩ := List.getElem_of_mem hv
    have := hpG G hG i hi
    have e1 : vs.getD i Value.none = v := by simp [hi, e]
    rw [e1] at this
    exact ⟨_, this⟩
  refine kat_kind (s := { s with heap := G }) (T := .type "int") f1 (by omega) (fun v hv => ?_) rfl hQ
  obtain ⟨k, t, rfl⟩ := f2 v hv
  exact .now
end
section
variable {X : Cx}
def rSortedL (K : PySem.W.Frag) : List V → Hp → VK → Prop := fun xs H Q => ∃ p ts ks, xs = [.ref p] ∧ SqL K H p ts ∧ ts.length = ks.length ∧ (∀ (i : Nat) (k : List Int), ks[i]? = some k → ∃ a lb, ts[i]? = some (.ref a) ∧ SqT K H a [.int (k.length : Int), .ref lb] ∧ SqL K H lb (k.map V.int)) ∧ ks.Nodup ∧ ks.length < 64 ∧
  ∀ (pm : List Nat) (l : Addr), pm.Perm (List.range ks.length) → pm.Pairwise (fun i j => keyP ks i j = true) → H l = none → Q (.ref l) (upd H l (.lst (pm.map fun i => ts.getD i .non)))
theorem call_sortedL (hc : X.calm = true) (hu : X.A.units + 64 < cLine) : CallR X (.builtin "sorted") (rSortedL X.K) := by
  intro pins s σ H xs us Q I rx h
  obtain ⟨p, ts, ks, rfl, hp, htl, hprs, nd, h64, q⟩ := h
  obtain ⟨u, rfl, ru⟩ := vals1 rx
  cases ru
  obtain ⟨its, rv, pl, _⟩ := I.list hp
  have hits : its.length = ks.length := by rw [← rv.length]; exact htl
  refine Calls.call_function_entry kind_sorted plain_sorted entry_sorted (args_sorted1 _) ?_
  unfold Builtin.«sorted»
  refine wpAny_bind (m := checkCount "sorted" 1 1 _) (wpAny_pure ?_)
  refine wpAny_bind (collect_list pl.isList ?_ (by rw [hits, sizeLine_eq]; omega))
  obtain ⟨G, hGe, hG, hsG⟩ : ∃ G, G = (s.heap.push (seqObj "list" #[] 0)).update s.heap.objs.size (Obj.mapSeq (· ++ its.toArray)) ∧ (∀ b o, s.heap.get? b = some o → G.get? b = some o) ∧ s.heap.objs.size ≤ G.objs.size :=
    ⟨_, rfl, fun b o e => (Heap.get?_update_other _ _ (Nat.ne_of_gt (Heap.lt_size e))).trans (Heap.get?_push_of_some _ e), by rw [Heap.size_update, Heap.size_push]; exact Nat.le_succ _⟩
  rw [← hGe]
  clear hGe
  refine wpAny_bind (wpAny_newList ?_ (by rw [hits, sizeLine_eq]; omega))
  dsimp only
  generalize hB : G.objs.size = B
  have hoL : (G.push { cls := .type "list", data := .seq its.toArray }).get? B = some (seqObj "list" its.toArray 0) := by
    rw [← hB]; exact Heap.get?_push_size _ rfl
  have hsB : s.heap.objs.size ≤ B := by rw [← hB]; exact hsG
  have old : ∀ b o, s.heap.get? b = some o → (G.push { cls := .type "list", data := .seq its.toArray }).get? b = some o ∧ b ≠ B := fun b o e => ⟨Heap.get?_push_of_some _ (hG _ _ e), by rw [← hB]; exact Nat.ne_of_lt (Heap.lt_size (hG _ _ e))⟩
  refine wpAny_bind (wpAny_holding (wpAny_call_entry slot_list_sort ⟨_, hoL, rfl⟩ entry_list_sort (sort_pairsL (ks := ks) hoL hits.symm (fun i v e => ?_) nd (by omega) ?hun fun pm h2 e2 hp1 hp2 hk2 ho2 => ⟨_, rfl, ?_⟩) (args_list_sort _)))
  case hun => first | exact Nat.lt_of_le_of_lt (by show X.A.units + 1 + 20 ≤ X.A.units + 64; omega) hu | (show X.A.units + 20 < cLine; omega) | (show X.A.units + 2 + 20 < cLine; omega) | (show X.A.units + 1 + 20 < cLine; omega)
  · have hi : i < ks.length := by rw [← hits]; exact (List.getElem?_eq_some_iff.mp e).1
    obtain ⟨a1, lb, f1, f2, f3⟩ := hprs i ks[i] (List.getElem?_eq_getElem hi)
    obtain ⟨u', g1, g2⟩ := rv.get f1
    rw [e] at g1
    cases g1
    cases g2
    obtain ⟨its2, r2, ⟨o, ho, hcl, n, hd⟩, _⟩ := I.tuple f2
    obtain ⟨y1, y2, rfl, ry1, ry2⟩ := vals2 r2
    obtain ⟨t, rfl⟩ := ry1
    cases ry2
    obtain ⟨its3, r3, p3, _⟩ := I.list f3
    obtain ⟨ol, hol, hrest⟩ := p3.isList
    refine ⟨ks[i], List.getElem?_eq_getElem hi, a1, o, t, n, lb, its3.toArray, rfl, (old _ _ ho).2, (old _ _ ho).1, hcl, hd, (old _ _ hol).2, ⟨ol, (old _ _ hol).1, hrest⟩, ?_⟩
    exact intsAre_of r3
  · refine wpAny_pure ⟨_, rfl, ?_⟩
    have hpr : pm.Perm (List.range ks.length) := by rw [← hits]; exact hp1
    have hold : ∀ b o, s.heap.get? b = some o → h2.get? b = some o := fun b o e => hk2 b o (old _ _ e).2 (old _ _ e).1
    refine ⟨.ref B, _, I.laid (t' := s.toks) (o := .lst (pm.map fun i => ts.getD i .non)) hold hsB ⟨?_, _, _, ?_, ho2⟩, rfl, q pm B hpr hp2 (I.hok.fresh hsB)⟩
    · rw [List.length_map, hpr.length_eq, List.length_range, sizeLine_eq]; omega
    · have go : ∀ l : List Nat, (∀ i ∈ l, i < ks.length) → Vals (l.map fun i => ts.getD i .non) (l.map fun i => its.getD i Value.none) := by
        intro l
        induction l with
        | nil => intro _; exact .nil
        | cons i l ih =>
          intro hl'
          have hi : i < ks.length := hl' i (List.mem_cons_self ..)
          have hi1 : i < ts.length := by rw [htl]; exact hi
          refine .cons ?_ (ih fun j hj => hl' j (List.mem_cons_of_mem _ hj))
          obtain ⟨u, e1, e2⟩ := rv.get (List.getElem?_eq_getElem hi1)
          have a1 : ts.getD i .non = ts[i] := by simp [hi1]
          have a2 : its.getD i Value.none = u := by rw [List.getD_eq_getElem?_getD, e1]; rfl
          show RelV (ts.getD i .non) (its.getD i Value.none)
          rw [a1, a2]
          exact e2
      exact go pm fun i hi => List.mem_range.mp (hpr.mem_iff.mp hi)
end
end L2
end
section
set_option autoImplicit false
namespace Kn
abbrev S := List Nat
section
variable {κ α : Type} [DecidableEq κ]
def putA : List (κ × α) → κ → α → List (κ × α)
  | [], k, v => [(k, v)]
  | (k', v') :: r, k, v => if k' = k then (k', v) :: r else (k', v') :: putA r k v
def getA : List (κ × α) → κ → Option α
  | [], _ => none
  | (k', v') :: r, k => if k' = k then some v' else getA r k
theorem getA_putA (l : List (κ × α)) (k k' : κ) (v : α) : getA (putA l k v) k' = if k = k' then some v else getA l k' := by
  induction l with
  | nil => simp [putA, getA]
  | cons p r ih =>
    obtain ⟨k0, v0⟩ := p
    by_cases h : k0 = k
    · subst h
      by_cases h' : k0 = k' <;> simp [putA, getA, h']
    · simp only [putA, if_neg h, getA, ih]
      by_cases h1 : k0 = k'
      · subst h1
        rw [if_pos rfl, if_pos rfl, if_neg (fun e => h e.symm)]
      · rw [if_neg h1, if_neg h1]
theorem putA_keys (l : List (κ × α)) (k : κ) (v : α) : (putA l k v).map (·.1) = if k ∈ l.map (·.1) then l.map (·.1) else l.map (·.1) ++ [k] := by
  induction l with
  | nil => simp [putA]
  | cons p r ih =>
    obtain ⟨k0, v0⟩ := p
    by_cases h : k0 = k
    · subst h; simp [putA]
    · have h' : ¬ k = k0 := fun e => h e.symm
      simp only [putA, if_neg h, List.map_cons, ih, List.mem_cons, h', false_or]
      split <;> simp
theorem putA_nodup {l : List (κ × α)} {k : κ} {v : α} (h : (l.map (·.1)).Nodup) : ((putA l k v).map (·.1)).Nodup := by
  rw [putA_keys]
  split
  · exact h
  · rename_i hk
    exact List.nodup_append.mpr ⟨h, by simp, fun a ha b hb e => by
      have : b = k := by simpa using hb
      subst this; subst e; exact hk ha⟩
theorem getA_mem {l : List (κ × α)} (h : (l.map (·.1)).Nodup) (k : κ) (v : α) : (k, v) ∈ l ↔ getA l k = some v := by
  induction l with
  | nil => simp [getA]
  | cons p r ih =>
    obtain ⟨k0, v0⟩ := p
    have h1 : k0 ∉ r.map (·.1) := (List.nodup_cons.mp h).1
    have h2 := ih (List.nodup_cons.mp h).2
    by_cases e : k0 = k
    · subst e
      have g : getA ((k0, v0) :: r) k0 = some v0 := by simp [getA]
      rw [g, List.mem_cons]
      constructor
      · rintro (z | z)
        · rw [(Prod.mk.inj z).2]
        · exact absurd (List.mem_map_of_mem (f := (·.1)) z) h1
      · intro z; rw [Option.some.inj z]; exact .inl rfl
    · simp only [getA, if_neg e, List.mem_cons, Prod.mk.injEq]
      rw [← h2]
      constructor
      · rintro (z | z)
        · exact absurd z.1.symm e
        · exact z
      · intro z; exact .inr z
theorem getA_none {l : List (κ × α)} {k : κ} : getA l k = none ↔ k ∉ l.map (·.1) := by
  induction l with
  | nil => simp [getA]
  | cons p r ih =>
    obtain ⟨k0, v0⟩ := p
    by_cases e : k0 = k
    · subst e; simp [getA]
    · have e' : ¬ k = k0 := fun z => e z.symm
      simp only [getA, if_neg e, ih, List.map_cons, List.mem_cons, e', false_or]
end
def bump (row : List (S × Int)) (l : S) : List (S × Int) := putA row l ((getA row l).getD 0 + 1)
def addP (rows : List (S × List (S × Int))) (p : S × S) : List (S × List (S × Int)) := putA rows p.1 (bump ((getA rows p.1).getD []) p.2)
def rowsOf (ps : List (S × S)) : List (S × List (S × Int)) := ps.foldl addP []
theorem rowsOf_snoc (ps : List (S × S)) (p : S × S) : rowsOf (ps ++ [p]) = addP (rowsOf ps) p := by
  unfold rowsOf; rw [List.foldl_append]; rfl
def endOf (t : S) (o : Nat) : S := t.drop (t.length - o)
def pairs1 (o : Nat) (nm : S) : List (S × S) := (List.range (nm.length + 1)).map fun p => (endOf (nm.take p) o, (nm.drop p).take 1)
def pairsB (o : Nat) (bk : List S) : List (S × S) := bk.flatMap (pairs1 o)
structure RowsOk (ps : List (S × S)) (rows : List (S × List (S × Int))) : Prop where
  nd : (rows.map (·.1)).Nodup
  ndr : ∀ e row, (e, row) ∈ rows → (row.map (·.1)).Nodup
  val : ∀ e l, getA ((getA rows e).getD []) l = if 0 < ps.count (e, l) then some (ps.count (e, l) : Int) else none
  has : ∀ e, (∃ row, getA rows e = some row) ↔ ∃ l, (e, l) ∈ ps
theorem rows_ok (ps : List (S × S)) : RowsOk ps (rowsOf ps) := by
  suffices h : ∀ (qs ps : List (S × S)) rows, RowsOk ps rows → RowsOk (ps ++ qs) (qs.foldl addP rows) by
    have := h ps [] [] ⟨by simp, by simp, by simp [getA], by simp [getA]⟩
    simpa [rowsOf] using this
  intro qs
  induction qs with
  | nil => intro ps rows h; simpa using h
  | cons q qs ih =>
    intro ps rows h
    obtain ⟨e0, l0⟩ := q
    have step : RowsOk (ps ++ [(e0, l0)]) (addP rows (e0, l0)) := by
      have hrow : ((((getA rows e0).getD []).map (·.1))).Nodup := by
        cases g : getA rows e0 with
        | none => simp
        | some row => exact h.ndr e0 row ((getA_mem h.nd e0 row).mpr g)
      refine ⟨putA_nodup h.nd, fun e row hm => ?_, fun e l => ?_, fun e => ?_⟩
      · have hm' := (getA_mem (putA_nodup h.nd) e row).mp hm
        unfold addP at hm'
        rw [getA_putA] at hm'
        split at hm'
        · have := Option.some.inj hm'
          rw [← this]
          exact putA_nodup hrow
        · exact h.ndr e row ((getA_mem h.nd e row).mpr hm')
      · unfold addP
        rw [getA_putA]
        by_cases he : e0 = e
        · subst he
          rw [if_pos rfl]
          show getA (bump ((getA rows e0).getD []) l0) l = _
          unfold bump
          rw [getA_putA, h.val e0 l0]
          by_cases hl : l0 = l
          · subst hl
            rw [if_pos rfl, List.count_append]
            have e1 : List.count (e0, l0) [(e0, l0)] = 1 := by simp
            rw [e1]
            by_cases hc : 0 < List.count (e0, l0) ps
            · simp [hc]
            · have : List.count (e0, l0) ps = 0 := by omega
              simp [this]
          · rw [if_neg hl, h.val e0 l, List.count_append]
            have e1 : List.count (e0, l) [(e0, l0)] = 0 := by
              simp [List.count_cons, hl]
            rw [e1, Nat.add_zero]
        · rw [if_neg he]
          rw [h.val e l, List.count_append]
          have e1 : List.count (e, l) [(e0, l0)] = 0 := by
            simp [List.count_cons, he]
          rw [e1, Nat.add_zero]
      · unfold addP
        rw [getA_putA]
        by_cases he : e0 = e
        · subst he
          rw [if_pos rfl]
          exact ⟨fun _ => ⟨l0, by simp⟩, fun _ => ⟨_, rfl⟩⟩
        · rw [if_neg he, h.has e]
          constructor
          · rintro ⟨l, hl⟩; exact ⟨l, List.mem_append_left _ hl⟩
          · rintro ⟨l, hl⟩
            rcases List.mem_append.mp hl with z | z
            · exact ⟨l, z⟩
            · have : (e, l) = (e0, l0) := by simpa using z
              exact absurd (congrArg Prod.fst this).symm he
    have := ih (ps ++ [(e0, l0)]) (addP rows (e0, l0)) step
    simpa using this
def Ris {α : Type} (xs : List (S × α)) : Prop := xs.Pairwise fun a b => a.1 < b.1
theorem s_irr (a : S) : ¬ a < a := List.lt_irrefl a
theorem s_tr {a b c : S} (h1 : a < b) (h2 : b < c) : a < c := List.lt_trans h1 h2
theorem Ris.keys {α : Type} {xs : List (S × α)} (h : Ris xs) : (xs.map (·.1)).Nodup := by
  unfold Ris at h
  rw [List.Nodup, List.pairwise_map]
  exact h.imp fun {a b} hab (e : a.1 = b.1) => s_irr b.1 (e ▸ hab)
theorem Ris.ext {α : Type} : ∀ {xs ys : List (S × α)}, Ris xs → Ris ys → (∀ p, p ∈ xs ↔ p ∈ ys) → xs = ys
  | [], [], _, _, _ => rfl
  | [], y :: ys, _, _, h => absurd ((h y).mpr (List.mem_cons_self ..)) (by simp)
  | x :: xs, [], _, _, h => absurd ((h x).mp (List.mem_cons_self ..)) (by simp)
  | x :: xs, y :: ys, hx, hy, h => by
    have hx1 := (List.pairwise_cons.mp hx).1
    have hy1 := (List.pairwise_cons.mp hy).1
    have exy : x = y := by
      rcases List.mem_cons.mp ((h x).mp (List.mem_cons_self ..)) with e | e
      · exact e
      · rcases List.mem_cons.mp ((h y).mpr (List.mem_cons_self ..)) with e' | e'
        · exact e'.symm
        · exact absurd (s_tr (hy1 x e) (hx1 y e')) (s_irr _)
    subst exy
    have : xs = ys := Ris.ext (List.pairwise_cons.mp hx).2 (List.pairwise_cons.mp hy).2 fun p => by
      constructor
      · intro hp
        rcases List.mem_cons.mp ((h p).mp (List.mem_cons_of_mem _ hp)) with e | e
        · subst e; exact absurd (hx1 p hp) (s_irr _)
        · exact e
      · intro hp
        rcases List.mem_cons.mp ((h p).mpr (List.mem_cons_of_mem _ hp)) with e | e
        · subst e; exact absurd (hy1 p hp) (s_irr _)
        · exact e
    rw [this]
structure IsRow (ps : List (S × S)) (e : S) (xs : List (S × Int)) : Prop where
  ris : Ris xs
  mem : ∀ l n, (l, n) ∈ xs ↔ n = (ps.count (e, l) : Int) ∧ 0 < n
theorem IsRow.of {ps : List (S × S)} {rows : List (S × List (S × Int))} (h : RowsOk ps rows) {e : S} {xs : List (S × Int)} (hr : Ris xs) (hp : xs.Perm ((getA rows e).getD [])) : IsRow ps e xs := by
  refine ⟨hr, fun l n => ?_⟩
  have hnd : (((getA rows e).getD []).map (·.1)).Nodup := by
    cases g : getA rows e with
    | none => simp
    | some row => exact h.ndr e row ((getA_mem h.nd e row).mpr g)
  rw [hp.mem_iff, getA_mem hnd, h.val]
  by_cases c : 0 < List.count (e, l) ps
  · rw [if_pos c]
    constructor
    · intro z
      have := Option.some.inj z
      omega
    · rintro ⟨z, _⟩; rw [z]
  · rw [if_neg c]
    constructor
    · intro z; cases z
    · rintro ⟨z1, z2⟩; omega
structure IsTable (ps : List (S × S)) (tb : List (S × List (S × Int))) : Prop where
  ris : Ris tb
  has : ∀ e, (∃ xs, (e, xs) ∈ tb) ↔ ∃ l, (e, l) ∈ ps
  row : ∀ e xs, (e, xs) ∈ tb → IsRow ps e xs
theorem IsRow.congr {ps qs : List (S × S)} {e : S} {xs : List (S × Int)} (a : IsRow ps e xs) (h : ∀ p, ps.count p = qs.count p) : IsRow qs e xs :=
  ⟨a.ris, fun l n => by rw [a.mem, h]⟩
theorem sum_counts {β : Type} [BEq β] [LawfulBEq β] : ∀ (ps ks : List β), ks.Nodup → (∀ x ∈ ps, x ∈ ks) → (ks.map fun k => (ps.count k : Int)).sum = (ps.length : Int)
  | [], ks, _, _ => by
    have : (ks.map fun k => (([] : List β).count k : Int)) = ks.map fun _ => (0 : Int) := by simp
    rw [this]
    induction ks with
    | nil => rfl
    | cons k r ih => simp_all
  | x :: ps, ks, nd, h => by
    have ih := sum_counts ps ks nd fun y hy => h y (List.mem_cons_of_mem _ hy)
    have no : ∀ (ks : List β), x ∉ ks → (ks.map fun k => ((x :: ps).count k : Int)).sum = (ks.map fun k => (ps.count k : Int)).sum := by
      intro ks
      induction ks with
      | nil => intro _; rfl
      | cons k r ih =>
        intro hx
        have hx1 : ¬ x = k := fun e => hx (e ▸ List.mem_cons_self ..)
        have hx2 : x ∉ r := fun e => hx (List.mem_cons_of_mem _ e)
        simp only [List.map_cons, List.sum_cons, ih hx2, List.count_cons_of_ne hx1]
    have one : ∀ (ks : List β), ks.Nodup → x ∈ ks → (ks.map fun k => ((x :: ps).count k : Int)).sum = (ks.map fun k => (ps.count k : Int)).sum + 1 := by
      intro ks
      induction ks with
      | nil => intro _ hx; cases hx
      | cons k r ih =>
        intro nd hx
        have hk := (List.nodup_cons.mp nd).1
        by_cases e : x = k
        · subst e
          simp only [List.map_cons, List.sum_cons, no r hk, List.count_cons_self]
          omega
        · have hx' : x ∈ r := (List.mem_cons.mp hx).elim (fun z => absurd z e) id
          simp only [List.map_cons, List.sum_cons, ih (List.nodup_cons.mp nd).2 hx', List.count_cons_of_ne e]
          omega
    rw [one ks nd (h x (List.mem_cons_self ..)), ih, List.length_cons]
    omega
theorem IsRow.total {ps : List (S × S)} {e : S} {xs : List (S × Int)} (a : IsRow ps e xs) : (xs.map (·.2)).sum = ((ps.filter fun p => p.1 = e).length : Int) := by
  have h := sum_counts (ps.filter fun p => decide (p.1 = e)) (xs.map fun p => (e, p.1)) ?_ ?_
  · rw [← h, List.map_map]
    congr 1
    apply List.map_congr_left
    rintro ⟨l, n⟩ hm
    have := ((a.mem l n).mp hm).1
    show n = (List.count (e, l) (ps.filter fun p => decide (p.1 = e)) : Int)
    rw [List.count_filter (by simp)]
    exact this
  · have := a.ris.keys
    rw [List.Nodup, List.pairwise_map] at this ⊢
    exact this.imp fun {p q} hpq z => hpq (congrArg Prod.snd z)
  · rintro ⟨e', l⟩ hm
    obtain ⟨h1, h2⟩ := List.mem_filter.mp hm
    have h2' : e' = e := by simpa using h2
    subst h2'
    exact List.mem_map.mpr ⟨(l, (ps.count (e', l) : Int)), (a.mem l _).mpr ⟨rfl, by
      have := List.count_pos_iff.mpr h1
      omega⟩, rfl⟩
theorem IsTable.total {ps : List (S × S)} {tb : List (S × List (S × Int))} (a : IsTable ps tb) : (tb.map fun r => (r.2.map (·.2)).sum).sum = (ps.length : Int) := by
  have h := sum_counts ps (tb.flatMap fun r => r.2.map fun p => (r.1, p.1)) ?_ ?_
  · rw [← h, List.map_flatMap]
    have : ∀ (tb : List (S × List (S × Int))), (∀ e xs, (e, xs) ∈ tb → IsRow ps e xs) → (tb.map fun r => (r.2.map (·.2)).sum).sum = (tb.flatMap fun r => (r.2.map fun p => (r.1, p.1)).map fun k => (ps.count k : Int)).sum := by
      intro tb
      induction tb with
      | nil => intro _; rfl
      | cons r t ih =>
        intro hr
        obtain ⟨e, xs⟩ := r
        rw [List.map_cons, List.sum_cons, List.flatMap_cons, List.sum_append, ih fun e' xs' hm => hr e' xs' (List.mem_cons_of_mem _ hm)]
        congr 1
        rw [List.map_map]
        congr 1
        apply List.map_congr_left
        rintro ⟨l, n⟩ hm
        exact (((hr e xs (List.mem_cons_self ..)).mem l n).mp hm).1
    exact this tb a.row
  · have : ∀ (tb : List (S × List (S × Int))), Ris tb → (∀ e xs, (e, xs) ∈ tb → IsRow ps e xs) → (tb.flatMap fun r => r.2.map fun p => (r.1, p.1)).Nodup := by
      intro tb
      induction tb with
      | nil => intro _ _; simp
      | cons r t ih =>
        intro hr hrow
        obtain ⟨e, xs⟩ := r
        rw [List.flatMap_cons]
        refine List.nodup_append.mpr ⟨?_, ih (List.pairwise_cons.mp hr).2 fun e' xs' hm => hrow e' xs' (List.mem_cons_of_mem _ hm), ?_⟩
        · have := (hrow e xs (List.mem_cons_self ..)).ris.keys
          rw [List.Nodup, List.pairwise_map] at this ⊢
          exact this.imp fun {p q} hpq z => hpq (congrArg Prod.snd z)
        · intro p hp q hq epq
          obtain ⟨z, _, rfl⟩ := List.mem_map.mp hp
          obtain ⟨r', hr', hz'⟩ := List.mem_flatMap.mp hq
          obtain ⟨z', _, e2⟩ := List.mem_map.mp hz'
          have : e = r'.1 := by
            have := congrArg Prod.fst (epq.trans e2.symm)
            exact this
          have hlt := (List.pairwise_cons.mp hr).1 r' hr'
          exact s_irr _ (this ▸ hlt)
    exact this tb a.ris a.row
  · rintro ⟨e, l⟩ hm
    obtain ⟨xs, hx⟩ := (a.has e).mpr ⟨l, hm⟩
    refine List.mem_flatMap.mpr ⟨(e, xs), hx, List.mem_map.mpr ⟨(l, (ps.count (e, l) : Int)), ((a.row e xs hx).mem l _).mpr ⟨rfl, ?_⟩, rfl⟩⟩
    have := List.count_pos_iff.mpr hm
    omega
theorem pairsB_append (o : Nat) (a b : List S) : pairsB o (a ++ b) = pairsB o a ++ pairsB o b := by
  unfold pairsB; rw [List.flatMap_append]
theorem pairsB_length (o : Nat) (a : List S) : ((pairsB o a).length : Int) = (a.map fun x => (x.length : Int) + 1).sum := by
  induction a with
  | nil => rfl
  | cons x r ih =>
    have e1 : pairsB o (x :: r) = pairs1 o x ++ pairsB o r := rfl
    rw [e1, List.length_append, List.map_cons, List.sum_cons, ← ih]
    simp [pairs1]
end Kn
end
section
set_option autoImplicit false
namespace Kn
def gcdI (a b : Int) : Int := (Int.gcd a b : Int)
def low (u d : Int) : Int × Int := (u / gcdI u d, d / gcdI u d)
structure Fq (q : Int × Int) : Prop where
  up : 0 ≤ q.1
  dn : 0 < q.2
  co : Int.gcd q.1 q.2 = 1
theorem gcdI_pos {u d : Int} (hd : 0 < d) : 0 < gcdI u d := by
  have : 0 < Int.gcd u d := Int.gcd_pos_iff.mpr (.inr (by omega))
  unfold gcdI; omega
theorem gcdI_u (u d : Int) : u = gcdI u d * (u / gcdI u d) := (Int.mul_ediv_cancel' (by unfold gcdI; exact Int.gcd_dvd_left ..)).symm
theorem gcdI_d (u d : Int) : d = gcdI u d * (d / gcdI u d) := (Int.mul_ediv_cancel' (by unfold gcdI; exact Int.gcd_dvd_right ..)).symm
theorem low_cross {u d : Int} (hd : 0 < d) : (low u d).1 * d = u * (low u d).2 := by
  have h1 := gcdI_u u d
  have h2 := gcdI_d u d
  show u / gcdI u d * d = u * (d / gcdI u d)
  generalize gcdI u d = g at *
  generalize u / g = a at *
  generalize d / g = b at *
  rw [h1, h2, ← Int.mul_assoc, Int.mul_comm a g]
theorem low_fq {u d : Int} (hu : 0 ≤ u) (hd : 0 < d) : Fq (low u d) := by
  have hg := gcdI_pos (u := u) hd
  refine ⟨Int.ediv_nonneg hu (Int.le_of_lt hg), ?_, ?_⟩
  · have h2 := gcdI_d u d
    show 0 < d / gcdI u d
    rcases Int.lt_trichotomy (d / gcdI u d) 0 with h | h | h
    · have := Int.mul_neg_of_pos_of_neg hg h
      omega
    · rw [h, Int.mul_zero] at h2; omega
    · exact h
  · show Int.gcd (u / gcdI u d) (d / gcdI u d) = 1
    unfold gcdI at *
    have hg' : 0 < Int.gcd u d := by omega
    rw [Int.gcd_ediv (Int.gcd_dvd_left ..) (Int.gcd_dvd_right ..)]
    simp
    exact Nat.div_self hg'
theorem Fq.ext {p q : Int × Int} (a : Fq p) (b : Fq q) (h : p.1 * q.2 = q.1 * p.2) : p = q := by
  obtain ⟨p1, p2⟩ := p
  obtain ⟨q1, q2⟩ := q
  obtain ⟨a1, a2, a3⟩ := a
  obtain ⟨b1, b2, b3⟩ := b
  dsimp only at *
  obtain ⟨x, rfl⟩ := Int.eq_ofNat_of_zero_le a1
  obtain ⟨y, rfl⟩ := Int.eq_ofNat_of_zero_le (Int.le_of_lt a2)
  obtain ⟨z, rfl⟩ := Int.eq_ofNat_of_zero_le b1
  obtain ⟨w, rfl⟩ := Int.eq_ofNat_of_zero_le (Int.le_of_lt b2)
  have h' : x * w = z * y := by exact_mod_cast h
  have a3' : Nat.gcd x y = 1 := by simpa [Int.gcd] using a3
  have b3' : Nat.gcd z w = 1 := by simpa [Int.gcd] using b3
  have hy : 0 < y := by omega
  have hw : 0 < w := by omega
  have d1 : y ∣ w := Nat.Coprime.dvd_of_dvd_mul_left (m := x) (by rw [Nat.Coprime, Nat.gcd_comm]; exact a3') (by rw [h']; exact Nat.dvd_mul_left ..)
  have d2 : w ∣ y := Nat.Coprime.dvd_of_dvd_mul_left (m := z) (by rw [Nat.Coprime, Nat.gcd_comm]; exact b3') (by rw [← h']; exact Nat.dvd_mul_left ..)
  have e : y = w := Nat.dvd_antisymm d1 d2
  subst e
  have : x = z := Nat.eq_of_mul_eq_mul_right hy h'
  rw [this]
theorem low_le {u d : Int} (hu : 0 ≤ u) (hd : 0 < d) : (low u d).2 ≤ d ∧ (low u d).1 ≤ u := by
  have hg := gcdI_pos (u := u) hd
  exact ⟨Int.ediv_le_self _ (by omega), Int.ediv_le_self _ hu⟩
def tms (p q : Int × Int) : Int × Int := low (p.1 * q.1) (p.2 * q.2)
def adds (p q : Int × Int) : Int × Int := low (p.1 * q.2 + q.1 * p.2) (p.2 * q.2)
def lss (p q : Int × Int) : Bool := decide (p.1 * q.2 < q.1 * p.2)
theorem tms_fq {p q : Int × Int} (a : Fq p) (b : Fq q) : Fq (tms p q) := low_fq (Int.mul_nonneg a.up b.up) (Int.mul_pos a.dn b.dn)
theorem fq01 : Fq (0, 1) := ⟨by decide, by decide, by decide⟩
theorem fq11 : Fq (1, 1) := ⟨by decide, by decide, by decide⟩
theorem low_zero {d : Int} (hd : 0 < d) : low 0 d = (0, 1) := by
  refine Fq.ext (low_fq (Int.le_refl _) hd) fq01 ?_
  have := low_cross (u := 0) hd
  rw [Int.zero_mul] at this
  have h0 : (low 0 d).1 = 0 := by
    rcases Int.mul_eq_zero.mp this with h | h
    · exact h
    · omega
  rw [h0]; simp
theorem tms_zero_left {q : Int × Int} (b : Fq q) : tms (0, 1) q = (0, 1) := by
  unfold tms
  have : ((0 : Int), (1 : Int)).1 * q.1 = 0 := Int.zero_mul _
  rw [this]
  exact low_zero (Int.mul_pos (by decide) b.dn)
theorem tms_zero_right {p : Int × Int} (a : Fq p) : tms p (0, 1) = (0, 1) := by
  unfold tms
  have : p.1 * ((0 : Int), (1 : Int)).1 = 0 := Int.mul_zero _
  rw [this]
  exact low_zero (Int.mul_pos a.dn (by decide))
theorem tms_pos {p q : Int × Int} (a : Fq p) (b : Fq q) (hp : 0 < p.1) (hq : 0 < q.1) : 0 < (tms p q).1 := by
  have f := tms_fq a b
  have c : (tms p q).1 * (p.2 * q.2) = (p.1 * q.1) * (tms p q).2 := low_cross (Int.mul_pos a.dn b.dn)
  rcases Int.lt_or_eq_of_le f.up with h | h
  · exact h
  · rw [← h, Int.zero_mul] at c
    have h1 : 0 < p.1 * q.1 := Int.mul_pos hp hq
    have h2 : 0 < (p.1 * q.1) * (tms p q).2 := Int.mul_pos h1 f.dn
    omega
theorem low_pos {u d : Int} (hu : 0 < u) (hd : 0 < d) : 0 < (low u d).1 := by
  have f := low_fq (Int.le_of_lt hu) hd
  have c := low_cross (u := u) hd
  rcases Int.lt_or_eq_of_le f.up with h | h
  · exact h
  · rw [← h, Int.zero_mul] at c
    have := Int.mul_pos hu f.dn
    omega
theorem low_le1 {u d : Int} (hu : 0 ≤ u) (hd : 0 < d) (h : u ≤ d) : (low u d).1 ≤ (low u d).2 := by
  have f := low_fq hu hd
  have c := low_cross (u := u) hd
  by_cases hh : (low u d).1 ≤ (low u d).2
  · exact hh
  · exfalso
    have h1 : (low u d).2 + 1 ≤ (low u d).1 := by omega
    have h2 : ((low u d).2 + 1) * d ≤ (low u d).1 * d := Int.mul_le_mul_of_nonneg_right h1 (Int.le_of_lt hd)
    have h3 : u * (low u d).2 ≤ d * (low u d).2 := Int.mul_le_mul_of_nonneg_right h (Int.le_of_lt f.dn)
    rw [Int.add_mul, Int.one_mul, Int.mul_comm (low u d).2 d] at h2
    omega
theorem tms_le1 {p q : Int × Int} (a : Fq p) (b : Fq q) (hp : p.1 ≤ p.2) (hq : q.1 ≤ q.2) : (tms p q).1 ≤ (tms p q).2 :=
  low_le1 (Int.mul_nonneg a.up b.up) (Int.mul_pos a.dn b.dn) (Int.mul_le_mul hp hq b.up (Int.le_of_lt a.dn))
end Kn
end
section
set_option autoImplicit false
set_option linter.all false
namespace Kn
def tot (ps : List (S × S)) (e : S) : Nat := (ps.filter fun p => p.1 = e).length
def part (ps : List (S × S)) (e l : S) : Int × Int := if ps.count (e, l) = 0 then (0, 1) else low (ps.count (e, l) : Int) (tot ps e : Int)
def shareG (ps : List (S × S)) (qs : List (S × S)) : Int × Int := qs.foldl (fun w p => tms w (part ps p.1 p.2)) (1, 1)
def shareOf (ps : List (S × S)) (o : Nat) (nm : S) : Int × Int := shareG ps (pairs1 o nm)
theorem count_le_tot (ps : List (S × S)) (e l : S) : ps.count (e, l) ≤ tot ps e := by
  unfold tot
  rw [← List.count_filter (l := ps) (p := fun p => decide (p.1 = e)) (a := (e, l)) (by simp)]
  exact List.count_le_length
theorem part_fq (ps : List (S × S)) (e l : S) : Fq (part ps e l) := by
  unfold part
  split
  · exact fq01
  · have := count_le_tot ps e l
    exact low_fq (by omega) (by omega)
theorem part_le1 (ps : List (S × S)) (e l : S) : (part ps e l).1 ≤ (part ps e l).2 := by
  unfold part
  split
  · decide
  · have := count_le_tot ps e l
    exact low_le1 (by omega) (by omega) (by omega)
theorem part_pos {ps : List (S × S)} {e l : S} (h : (e, l) ∈ ps) : 0 < (part ps e l).1 := by
  have hc := List.count_pos_iff.mpr h
  have := count_le_tot ps e l
  unfold part
  rw [if_neg (by omega)]
  exact low_pos (by omega) (by omega)
theorem part_none {ps : List (S × S)} {e l : S} (h : (e, l) ∉ ps) : part ps e l = (0, 1) := by
  unfold part
  rw [if_pos (List.count_eq_zero.mpr h)]
theorem part_dn {ps : List (S × S)} (e l : S) (h : 1 ≤ ps.length) : (part ps e l).2 ≤ (ps.length : Int) := by
  unfold part
  split
  · show (1 : Int) ≤ _; omega
  · have h1 := count_le_tot ps e l
    have h2 : tot ps e ≤ ps.length := List.length_filter_le _ _
    have := (low_le (u := (ps.count (e, l) : Int)) (d := (tot ps e : Int)) (by omega) (by omega)).1
    omega
theorem foldG_fq (ps : List (S × S)) : ∀ (qs : List (S × S)) (w : Int × Int), Fq w → Fq (qs.foldl (fun w p => tms w (part ps p.1 p.2)) w)
  | [], w, h => h
  | q :: qs, w, h => foldG_fq ps qs _ (tms_fq h (part_fq ps q.1 q.2))
theorem foldG_le1 (ps : List (S × S)) : ∀ (qs : List (S × S)) (w : Int × Int), Fq w → w.1 ≤ w.2 → (qs.foldl (fun w p => tms w (part ps p.1 p.2)) w).1 ≤ (qs.foldl (fun w p => tms w (part ps p.1 p.2)) w).2
  | [], w, _, h => h
  | q :: qs, w, f, h => foldG_le1 ps qs _ (tms_fq f (part_fq ps q.1 q.2)) (tms_le1 f (part_fq ps q.1 q.2) h (part_le1 ps q.1 q.2))
theorem foldG_pos (ps : List (S × S)) : ∀ (qs : List (S × S)) (w : Int × Int), Fq w → 0 < w.1 → (∀ q ∈ qs, q ∈ ps) → 0 < (qs.foldl (fun w p => tms w (part ps p.1 p.2)) w).1
  | [], w, _, h, _ => h
  | q :: qs, w, f, h, hq => foldG_pos ps qs _ (tms_fq f (part_fq ps q.1 q.2)) (tms_pos f (part_fq ps q.1 q.2) h (part_pos (hq q (List.mem_cons_self ..)))) fun r hr => hq r (List.mem_cons_of_mem _ hr)
theorem foldG_zero (ps : List (S × S)) : ∀ (qs : List (S × S)), qs.foldl (fun w p => tms w (part ps p.1 p.2)) (0, 1) = (0, 1)
  | [] => rfl
  | q :: qs => by
    rw [List.foldl_cons, tms_zero_left (part_fq ps q.1 q.2)]
    exact foldG_zero ps qs
theorem foldG_dn {ps : List (S × S)} (h1 : 1 ≤ ps.length) : ∀ (qs : List (S × S)) (w : Int × Int) (k : Nat), Fq w → w.2 ≤ (ps.length : Int) ^ k → (qs.foldl (fun w p => tms w (part ps p.1 p.2)) w).2 ≤ (ps.length : Int) ^ (k + qs.length)
  | [], w, k, _, h => h
  | q :: qs, w, k, f, h => by
    have g := part_fq ps q.1 q.2
    have e : k + (q :: qs).length = (k + 1) + qs.length := by simp; omega
    rw [e, List.foldl_cons]
    refine foldG_dn h1 qs _ (k + 1) (tms_fq f g) ?_
    have a1 : (tms w (part ps q.1 q.2)).2 ≤ w.2 * (part ps q.1 q.2).2 := (low_le (Int.mul_nonneg f.up g.up) (Int.mul_pos f.dn g.dn)).1
    have a2 : w.2 * (part ps q.1 q.2).2 ≤ (ps.length : Int) ^ k * (ps.length : Int) := Int.mul_le_mul h (part_dn q.1 q.2 h1) (Int.le_of_lt g.dn) (by have := f.dn; omega)
    rw [Int.pow_succ]
    omega
theorem share_fq (ps : List (S × S)) (o : Nat) (nm : S) : Fq (shareOf ps o nm) := foldG_fq ps _ _ fq11
theorem share_le1 (ps : List (S × S)) (o : Nat) (nm : S) : (shareOf ps o nm).1 ≤ (shareOf ps o nm).2 := foldG_le1 ps _ _ fq11 (by decide)
theorem pairs1_head (o : Nat) (nm : S) : ∃ r, pairs1 o nm = (([] : S), nm.take 1) :: r := by
  unfold pairs1
  rw [List.range_succ_eq_map, List.map_cons]
  have e : (endOf (List.take 0 nm) o, List.take 1 (List.drop 0 nm)) = (([] : S), nm.take 1) := by simp [endOf]
  rw [e]
  exact ⟨_, rfl⟩
def min2 (a b : S) : S := if b < a then b else a
def lkl (sa sb : Int × Int) (a b : S) : S := if lss sa sb = true then b else if lss sb sa = true then a else min2 a b
theorem lss_zero {p : Int × Int} : lss (0, 1) p = decide (0 < p.1) := by
  simp only [lss]
  congr 1
  simp
end Kn
end
section
set_option linter.all false
namespace Kn
def prodI : List Int → Int
  | [] => 1
  | x :: r => x * prodI r
def upsP (ps qs : List (S × S)) : List Int := qs.map fun p => (part ps p.1 p.2).1
def dnsP (ps qs : List (S × S)) : List Int := qs.map fun p => (part ps p.1 p.2).2
theorem part_or (ps : List (S × S)) (e l : S) : part ps e l = (0, 1) ∨ 0 < (part ps e l).1 := by
  by_cases h : (e, l) ∈ ps
  · exact .inr (part_pos h)
  · exact .inl (part_none h)
theorem foldG_zeroI (ps : List (S × S)) : ∀ (qs : List (S × S)) (w : Int × Int), Fq w → (∃ q ∈ qs, (part ps q.1 q.2).1 = 0) → qs.foldl (fun w p => tms w (part ps p.1 p.2)) w = (0, 1)
  | [], _, _, h => by obtain ⟨q, hq, _⟩ := h; cases hq
  | q :: qs, w, f, h => by
    rw [List.foldl_cons]
    rcases part_or ps q.1 q.2 with e | e
    · rw [e, tms_zero_right f]; exact foldG_zero ps qs
    · refine foldG_zeroI ps qs _ (tms_fq f (part_fq ..)) ?_
      obtain ⟨r, hr, e2⟩ := h
      rcases List.mem_cons.mp hr with z | z
      · rw [z] at e2; omega
      · exact ⟨r, z, e2⟩
end Kn
end
section
set_option Elab.async false
set_option linter.all false
set_option maxRecDepth 100000
set_option maxHeartbeats 1000000
namespace Kn
open PySem L2
def top (i : Nat) : Stmt := PySem.Challenge.pw_kinnames_k52_whole_shows.main.body.getD i (.Pass ⟨0, 0, 0, 0⟩)
def Cal (P : Program) (w : World) (K : PySem.W.Frag) (mg : Str → Option Value) (base : Heap) (k : Nat) (x : Str) (ps : List Str) (sp : Sp) : Prop :=
  ∃ (f : Addr) (fd : FuncData), FnOk P w K mg base CX0 k f fd ps sp ∧ mg x = some (.ref f) ∧ PySem.W.keepIn K (.ref f) = true ∧ Binds K fd ps []
theorem pe_cal {X : Cx} {k : Nat} {x : Str} {ps : List Str} {sp : Sp} {p pos : Pos} {e : Expr} {es : List Expr} {t : TA} (C : Cal X.prog X.w X.K X.mg X.base k x ps sp) (hr : Room k X.A) (hg : Gl X x) (ha : PA X (e :: es) t)
    (hs : starEach (e :: es) X.env = (false, eval e X.env) :: starEach es X.env := by rfl) (hplain : (backTo pos (starEach es X.env)).any (·.1) = false := by rfl)
    (hdb : (x == ("__debug__" : Str)) = false := by decide) : PE X (.Call (.Name x p) (e :: es) [] pos) (tCall sp [] E0 t) := by
  obtain ⟨f, fd, G, hm, kp, b⟩ := C
  exact pe_call G hr hg hm kp b .nil pass0 ha hdb hs hplain
abbrev tx (x : S) : Str := ⟨x.toArray⟩
abbrev sv (x : S) : V := .str (tx x)
theorem tx_cps (x : S) : (tx x).cps.toList = x := by simp [tx]
theorem tx_len (x : S) : (tx x).length = x.length := by simp [tx, Str.length]
theorem range_item {n i : Nat} {x : V} (h : ((List.range n).map fun (i : Nat) => V.int (0 + (i : Int)))[i]? = some x) : i < n ∧ x = .int i := by
  have hi : i < n := by
    have := (List.getElem?_eq_some_iff.mp h).1
    simpa using this
  refine ⟨hi, ?_⟩
  rw [List.getElem?_map, List.getElem?_range hi] at h
  have := Option.some.inj h
  rw [← this]
  show V.int (0 + (i : Int)) = V.int i
  rw [Int.zero_add]
theorem ys1 {ys : St} (h : ys.length = 1) : ∃ y, ys = [y] := by
  match ys, h with
  | [y], _ => exact ⟨y, rfl⟩
theorem ys2 {ys : St} (h : ys.length = 2) : ∃ y z, ys = [y, z] := by
  match ys, h with
  | [y, z], _ => exact ⟨y, z, rfl⟩
structure Blt (mg : Str → Option Value) : Prop where
  len : mg "len" = none
  range : mg "range" = none
  all : mg "all" = none
  isinstance : mg "isinstance" = none
  str : mg "str" = none
  tuple : mg "tuple" = none
  int : mg "int" = none
  bool : mg "bool" = none
  sorted : mg "sorted" = none
  sum : mg "sum" = none
  min : mg "min" = none
section
variable {P : Program} {w : World} {K : PySem.W.Frag} {mg : Str → Option Value} {base : Heap}
theorem cut_end (t : S) (o : Nat) (ho : 1 ≤ o) : cutS (tx t) (some (-(o : Int))) none = tx (endOf t o) := by
  unfold cutS
  rw [tx_len, tx_cps]
  have e1 : HT.sIx t.length 0 (some (-(o : Int))) = t.length - o := by
    show (if -(o : Int) < 0 then (-(o : Int) + (t.length : Int)).toNat else _) = _
    rw [if_pos (by omega)]; omega
  have e2 : HT.sIx t.length t.length none = t.length := rfl
  rw [e1, e2]
  unfold endOf
  rw [List.take_of_length_le (by rw [List.length_drop]; omega)]
theorem cut_to (t : S) (p : Nat) : cutS (tx t) none (some (p : Int)) = tx (t.take p) := by
  unfold cutS
  rw [tx_len, tx_cps, HT.sIx_nat]
  show tx ((t.drop 0).take (min p t.length - 0)) = _
  rw [List.drop_zero, Nat.sub_zero, ← List.take_eq_take_min]
theorem cut_one (t : S) (p : Nat) : cutS (tx t) (some (p : Int)) (some ((p : Int) + 1)) = tx ((t.drop p).take 1) := by
  unfold cutS
  rw [tx_len, tx_cps, HT.sIx_nat, show ((p : Int) + 1) = ((p + 1 : Nat) : Int) from rfl, HT.sIx_nat]
  congr 1
  by_cases h : p < t.length
  · have e1 : min p t.length = p := by omega
    have e2 : min (p + 1) t.length - p = 1 := by omega
    rw [e1, e2]
  · have e1 : min p t.length = t.length := by omega
    rw [e1, List.drop_of_length_le (Nat.le_refl _), List.drop_of_length_le (by omega)]
    simp
def spEnd : Sp := fun vs H Q _ => ∃ (t : S) (o : Nat), vs = [sv t, .int o] ∧ 1 ≤ o ∧ t.length ≤ 64 ∧ Q (sv (endOf t o)) H
abbrev sEnd : Stmt := top 18
theorem scEnd : FnScope ["text", "order"] ["text", "order"] (defScope sEnd) := ⟨rfl, rfl, rfl, by decide +kernel, rfl, by decide +kernel, by decide +kernel⟩
theorem ok_end {f : Addr} {fd : FuncData} (F : Fun K "end_of" "end_of" sEnd f fd) : FnOk P w K mg base CX0 1 f fd ["text", "order"] spEnd := by
  refine F.ok scEnd (fun vs H Q E h => ?_) (fun cdv A outer s H vs Q E hr h => ?_)
  · obtain ⟨t, o, rfl, _⟩ := h; rfl
  · obtain ⟨t, o, rfl, ho, hl, k⟩ := h
    refine ⟨_, pss_one (ps_ret (pe_sliceS (pv 0) (po_some (pe_un un_neg (pv 1))) po_none)), ?_⟩
    refine ⟨_, rfl, _, rfl, _, rfl, _, rfl, _, rfl, ?_, ?_⟩
    · rw [tx_len, sizeLine_eq]; omega
    · rw [cut_end t o ho]; exact k
def pr (o : Nat) (t : S) (p : Nat) : S × S := (endOf (t.take p) o, (t.drop p).take 1)
def elD (p : S × S) : PyData := .tuple [.str (tx p.1), .str (tx p.2)]
def spEnds (K : PySem.W.Frag) : Sp := fun vs H Q _ => ∃ (t : S) (o : Nat), vs = [sv t, .int o] ∧ 1 ≤ o ∧ t.length ≤ 64 ∧ ∀ a xs H', Same H H' → H a = none → H' a = some (.lst xs) → Reps K H' ((pairs1 o t).map elD) xs → Q (.ref a) H'
abbrev sEnds : Stmt := top 19
theorem scEnds : FnScope ["name", "order"] ["name", "order"] (defScope sEnds) := ⟨rfl, rfl, rfl, by decide +kernel, rfl, by decide +kernel, by decide +kernel⟩
theorem ndEnds : (["name", "order", "place"] : List Str).Nodup := by decide +kernel
theorem ok_ends {f : Addr} {fd : FuncData} (F : Fun K "ends_and_letters" "ends_and_letters" sEnds f fd) (B : Blt mg) (cEnd : Cal P w K mg base 1 "end_of" ["text", "order"] spEnd) : FnOk P w K mg base CX0 2 f fd ["name", "order"] (spEnds K) := by
  refine F.ok scEnds (fun vs H Q E h => ?_) (fun cdv A outer s H vs Q E hr h => ?_)
  · obtain ⟨t, o, rfl, _⟩ := h; rfl
  · obtain ⟨t, o, rfl, ho, hl, k⟩ := h
    refine ⟨_, pss_one (ps_ret (pe_comp (N := ["name", "order", "place"]) (caps := [0, 1]) rfl (compScope_of (by kernel_rfl))
      (pi_range1 rfl B.range (pa_cons (pe_op op_add (pe_callB call_len_str (by rfl) B.len PySem.boot_len (pa_cons (pv 0) pa_nil)) pe_int) pa_nil))
      (fun cl C s H ex => pg_name (i := 2) ndEnds rfl (Or.inl rfl))
      (fun cl C s H ex => pf_nil)
      (fun cl C s H ex => pe_tup (pa_cons (pe_cal cEnd hr rfl (pa_cons (pe_sliceS (pv 0) po_none (po_some (pv 2))) (pa_cons (pv 1) pa_nil)))
        (pa_cons (pe_sliceS (pv 0) (po_some (pv 2)) (po_some (pe_op op_add (pv 2) pe_int))) pa_nil))))), ?_⟩
    refine ⟨_, rfl, _, rfl, ?_, _, _, rfl, rfl, _, rfl, ?_, ?_, ?_⟩
    · rw [tx_len, sizeLine_eq]; omega
    · rw [tx_len]; omega
    · rw [tx_len]; omega
    have hn : ((tx t).length : Int) + 1 = ((t.length + 1 : Nat) : Int) := by rw [tx_len]; rfl
    have hnn : (((tx t).length : Int) + 1).toNat = t.length + 1 := by rw [hn]; rfl
    refine comp_known0 (known_range 0 _) [some (sv t), some (.int o)] 1 (by rw [List.length_map, List.length_range, hnn]; omega) (fun i acc H' => Same H H' ∧ acc.length = i ∧ Reps K H' (((List.range i).map (pr o t)).map elD) acc)
      ⟨Same.refl H, rfl, rfl⟩ (fun i acc H' _ h => ⟨trivial, Nat.le_of_eq h.2.1⟩) ?_ ?_
    · rintro i x acc H' ys Nx hN hx hy ⟨sm, hal, rp⟩
      obtain ⟨y, rfl⟩ := ys1 hy
      rw [hnn] at hx
      obtain ⟨hi, rfl⟩ := range_item hx
      refine ⟨_, rfl, _, rfl, _, rfl, _, rfl, (by rw [tx_len, sizeLine_eq]; omega), _, rfl, t.take i, o, (by rw [cut_to]; rfl), ho, (by rw [List.length_take]; omega), ?_⟩
      refine ⟨_, rfl, _, rfl, _, rfl, _, rfl, _, _, rfl, rfl, _, rfl, _, rfl, (by rw [tx_len, sizeLine_eq]; omega), ?_⟩
      refine ⟨by show 2 ≤ sizeLine; decide, fun p hp => hN _ _ [some (.int i)] rfl ⟨sm.upd_new (sm.free hp), by rw [List.length_append, hal]; rfl, ?_⟩⟩
      rw [List.range_succ, List.map_append, List.map_append]
      refine Reps.append (Reps.same (Same.upd1 hp) _ _ rp) (Reps.one ⟨p, _, rfl, .of upd_same, ?_⟩)
      rw [cut_one]
      exact ⟨_, _, rfl, rfl, _, _, rfl, rfl, rfl⟩
    · rintro acc H' ⟨sm, hal, rp⟩ D hD
      refine k D acc _ (sm.upd_new (sm.free hD)) (sm.free hD) upd_same (Reps.same (Same.upd1 hD) _ _ ?_)
      rw [List.length_map, List.length_range, hnn] at rp
      exact rp
def isNm (x : S) : Prop := 1 ≤ x.length ∧ x.length ≤ 8 ∧ ∀ c ∈ x, 97 ≤ c ∧ c ≤ 122
def letters : Str := ⟨#[97, 98, 99, 100, 101, 102, 103, 104, 105, 106, 107, 108, 109, 110, 111, 112, 113, 114, 115, 116, 117, 118, 119, 120, 121, 122]⟩
theorem in_letters {c : Nat} (h : 97 ≤ c ∧ c ≤ 122) : (Builtin.Str.occurrences letters ⟨#[c]⟩ 0 letters.length 1).isEmpty = false := by
  have all : ∀ d : _root_.Fin 26, (Builtin.Str.occurrences letters ⟨#[97 + d.val]⟩ 0 letters.length 1).isEmpty = false := by decide +kernel
  have := all ⟨c - 97, by omega⟩
  have e : 97 + (c - 97) = c := by omega
  simpa [e] using this
structure Cst (K : PySem.W.Frag) (mg : Str → Option Value) : Prop where
  letters : ∃ t, mg "LETTERS" = some (.str letters t)
  ml : ∃ t, mg "MOST_LETTERS" = some (.int 8 t)
  mn : ∃ t, mg "MOST_NAMES" = some (.int 8 t)
  mo : ∃ t, mg "MOST_ORDER" = some (.int 3 t)
  ib : PySem.W.kitOne K (.type "int") (.type "bool") = some false
def spIsName : Sp := fun vs H Q _ => ∃ x : S, vs = [sv x] ∧ isNm x ∧ ∀ H', Same H H' → Q (.bl true) H'
abbrev sIsName : Stmt := top 10
theorem scIsName : FnScope ["thing"] ["thing"] (defScope sIsName) := ⟨rfl, rfl, rfl, by decide +kernel, rfl, by decide +kernel, by decide +kernel⟩
theorem nd1 : (["letter"] : List Str).Nodup := by decide +kernel
theorem ok_isname {f : Addr} {fd : FuncData} (F : Fun K "is_name" "is_name" sIsName f fd) (B : Blt mg) (C : Cst K mg) : FnOk P w K mg base CX0 1 f fd ["thing"] spIsName := by
  obtain ⟨tl, hl⟩ := C.letters
  obtain ⟨t8, h8⟩ := C.ml
  refine F.ok scIsName (fun vs H Q E h => ?_) (fun cdv A outer s H vs Q E hr h => ?_)
  · obtain ⟨t, rfl, _⟩ := h; rfl
  · obtain ⟨x, rfl, ⟨n1, n2, n3⟩, k⟩ := h
    refine ⟨_, pss_cons (ps_if (PW.pt (pw_or (pt_not (pt_val (pe_callB call_isinst (by rfl) B.isinstance PyProof.Rows.boot_isinstance (pa_cons (pv 0) (pa_cons (pe_bltn (v := .ty "str") (by rfl) B.str PyProof.Rows.boot_str rfl) pa_nil)))))
        (pw_or1 (pt_not (pt_chain op_le op_le pe_int (pe_callB call_len_str (by rfl) B.len PySem.boot_len (pa_cons (pv 0) pa_nil)) (pe_glob (v := .int 8) (by rfl) h8 ⟨_, rfl⟩))))))
        (pss_one (ps_ret pe_bl)) pss_nil)
      (pss_one (ps_ret (pe_callB (call_all rfl) (by rfl) B.all PyProof.Rows.boot_all (pa_cons (pe_comp (N := ["letter"]) (caps := []) rfl (compScope_of (by kernel_rfl)) (pi_str (pv 0))
        (fun cl C s H ex => pg_name (i := 0) nd1 rfl (Or.inl rfl)) (fun cl C s H ex => pf_nil)
        (fun cl C s H ex => pe_cmpR op_in_str (pv 0) (pe_glob (v := .str letters) (by rfl) hl ⟨_, rfl⟩) (by with_unfolding_all rfl))) pa_nil)))), ?_⟩
    refine ⟨_, rfl, _, _, _, true, rfl, .str _, (by rfl), _, rfl, ?_⟩
    refine iteF ?_
    refine ⟨_, rfl, _, rfl, (by rw [tx_len, sizeLine_eq]; omega), _, _, rfl, rfl, _, rfl, ?_⟩
    refine iteD (by rw [tx_len]; omega) ⟨_, _, rfl, rfl, _, rfl, iteNS (by rw [tx_len]; omega) ?_⟩
    refine ⟨_, rfl, _, rfl, ?_⟩
    refine comp_known0 (known_str (tx x)) [] 1 (by rw [List.length_map, tx_cps]; omega) (fun i acc H' => Same H H' ∧ acc = List.replicate i (.bl true)) ⟨Same.refl H, rfl⟩ (fun i acc H' _ h => ⟨trivial, by rw [h.2]; simp⟩) ?_ ?_
    · rintro i y acc H' ys Nx hN hx hy ⟨sm, rfl⟩
      obtain ⟨y', rfl⟩ := ys1 hy
      rw [List.getElem?_map, tx_cps] at hx
      cases e : x[i]? with
      | none => rw [e] at hx; cases hx
      | some c =>
        rw [e] at hx
        have hy2 : y = .str ⟨#[c]⟩ := (Option.some.inj hx).symm
        subst hy2
        refine ⟨_, rfl, _, _, rfl, rfl, ?_⟩
        rw [in_letters (n3 c (List.mem_of_getElem? e))]
        exact hN _ _ [some (.str ⟨#[c]⟩)] rfl ⟨sm, by rw [List.replicate_succ']; rfl⟩
    · rintro acc H' ⟨sm, rfl⟩ D hD
      refine ⟨D, List.replicate _ true, rfl, .of (by rw [upd_same, List.map_replicate]), ?_⟩
      have : (List.replicate ((tx x).cps.toList.map fun c => V.str ⟨#[c]⟩).length true).all id = true := by simp
      rw [this]
      exact k _ (sm.upd_new (sm.free hD))
def bkV (bk : List S) : List V := bk.map sv
structure isBk (bk : List S) : Prop where
  lo : 1 ≤ bk.length
  hi : bk.length ≤ 8
  nm : ∀ x ∈ bk, isNm x
def spIsBook : Sp := fun vs H Q _ => ∃ (a : Addr) (bk : List S), vs = [.ref a] ∧ H a = some (.tup (bkV bk)) ∧ isBk bk ∧ ∀ H', Same H H' → Q (.bl true) H'
abbrev sIsBook : Stmt := top 11
theorem scIsBook : FnScope ["thing"] ["thing"] (defScope sIsBook) := ⟨rfl, rfl, rfl, by decide +kernel, rfl, by decide +kernel, by decide +kernel⟩
theorem nd2 : (["name"] : List Str).Nodup := by decide +kernel
theorem ok_isbook {f : Addr} {fd : FuncData} (F : Fun K "is_book" "is_book" sIsBook f fd) (B : Blt mg) (C : Cst K mg) (cName : Cal P w K mg base 1 "is_name" ["thing"] spIsName) : FnOk P w K mg base CX0 2 f fd ["thing"] spIsBook := by
  obtain ⟨t8, h8⟩ := C.mn
  refine F.ok scIsBook (fun vs H Q E h => ?_) (fun cdv A outer s H vs Q E hr h => ?_)
  · obtain ⟨a, bk, rfl, _⟩ := h; rfl
  · obtain ⟨a, bk, rfl, ha, ⟨n1, n2, n3⟩, k⟩ := h
    refine ⟨_, pss_cons (ps_if (PW.pt (pw_or (pt_not (pt_val (pe_callB call_isinst (by rfl) B.isinstance PyProof.Rows.boot_isinstance (pa_cons (pv 0) (pa_cons (pe_bltn (v := .ty "tuple") (by rfl) B.tuple PyProof.Rows.boot_tuple rfl) pa_nil)))))
        (pw_or1 (pt_not (pt_chain op_le op_le pe_int (pe_callB call_len_seq (by rfl) B.len PySem.boot_len (pa_cons (pv 0) pa_nil)) (pe_glob (v := .int 8) (by rfl) h8 ⟨_, rfl⟩))))))
        (pss_one (ps_ret pe_bl)) pss_nil)
      (pss_one (ps_ret (pe_callB (call_all rfl) (by rfl) B.all PyProof.Rows.boot_all (pa_cons (pe_comp (N := ["name"]) (caps := []) rfl (compScope_of (by kernel_rfl)) (pi_tup (pv 0))
        (fun cl C s H ex => pg_name (i := 0) nd2 rfl (Or.inl rfl)) (fun cl C s H ex => pf_nil)
        (fun cl C s H ex => pe_cal cName hr rfl (pa_cons (pv 0) pa_nil))) pa_nil)))), ?_⟩
    refine ⟨_, rfl, _, _, _, true, rfl, .tup ha, (by rfl), _, rfl, ?_⟩
    refine iteF ?_
    refine ⟨_, rfl, _, _, rfl, .inr (.of ha), _, _, rfl, rfl, _, rfl, ?_⟩
    have hl : (bkV bk).length = bk.length := by simp [bkV]
    refine iteD (by rw [hl]; omega) ⟨_, _, rfl, rfl, _, rfl, iteNS (by rw [hl]; omega) ?_⟩
    refine ⟨_, rfl, _, rfl, ⟨_, .of ha⟩, ?_⟩
    refine comp_known0 (known_tup _ a (bkV bk)) [] 1 (by rw [hl]; omega) (fun i acc H' => Same H H' ∧ acc = List.replicate i (.bl true)) ⟨Same.refl H, rfl⟩ (fun i acc H' _ h => ⟨.of (h.1 _ _ ha), by rw [h.2]; simp⟩) ?_ ?_
    · rintro i y acc H' ys Nx hN hx hy ⟨sm, rfl⟩
      obtain ⟨y', rfl⟩ := ys1 hy
      rw [bkV, List.getElem?_map] at hx
      cases e : bk[i]? with
      | none => rw [e] at hx; cases hx
      | some c =>
        rw [e] at hx
        have hy2 : y = sv c := (Option.some.inj hx).symm
        subst hy2
        exact ⟨_, rfl, c, rfl, n3 c (List.mem_of_getElem? e), fun H5 sm5 => hN _ _ [some (sv c)] rfl ⟨sm.trans sm5, by rw [List.replicate_succ']⟩⟩
    · rintro acc H' ⟨sm, rfl⟩ D hD
      refine ⟨D, List.replicate _ true, rfl, .of (by rw [upd_same, List.map_replicate]), ?_⟩
      have : (List.replicate (bkV bk).length true).all id = true := by simp
      rw [this]
      exact k _ (sm.upd_new (sm.free hD))
def spIsWhole : Sp := fun vs H Q _ => ∃ o a b : Nat, vs = [.int o, .int a, .int b] ∧ a ≤ o ∧ o ≤ b ∧ Q (.bl true) H
abbrev sIsWhole : Stmt := top 12
theorem scIsWhole : FnScope ["thing", "least", "most"] ["thing", "least", "most"] (defScope sIsWhole) := ⟨rfl, rfl, rfl, by decide +kernel, rfl, by decide +kernel, by decide +kernel⟩
def spIsOrder : Sp := fun vs H Q _ => ∃ o : Nat, vs = [.int o] ∧ 1 ≤ o ∧ o ≤ 3 ∧ Q (.bl true) H
abbrev sIsOrder : Stmt := top 13
theorem scIsOrder : FnScope ["thing"] ["thing"] (defScope sIsOrder) := ⟨rfl, rfl, rfl, by decide +kernel, rfl, by decide +kernel, by decide +kernel⟩
theorem ok_isorder {f : Addr} {fd : FuncData} (F : Fun K "is_order" "is_order" sIsOrder f fd) (C : Cst K mg) (cW : Cal P w K mg base 1 "is_whole" ["thing", "least", "most"] spIsWhole) : FnOk P w K mg base CX0 2 f fd ["thing"] spIsOrder := by
  obtain ⟨t3, h3⟩ := C.mo
  refine F.ok scIsOrder (fun vs H Q E h => ?_) (fun cdv A outer s H vs Q E hr h => ?_)
  · obtain ⟨o, rfl, _⟩ := h; rfl
  · obtain ⟨o, rfl, n1, n2, k⟩ := h
    refine ⟨_, pss_one (ps_ret (pe_cal cW hr rfl (pa_cons (pv 0) (pa_cons pe_int (pa_cons (pe_glob (v := .int 3) (by rfl) h3 ⟨_, rfl⟩) pa_nil))))), ?_⟩
    exact ⟨_, rfl, o, 1, 3, rfl, n1, n2, k⟩
def spNeedBook : Sp := fun vs H Q _ => ∃ (a : Addr) (bk : List S), vs = [.ref a] ∧ H a = some (.tup (bkV bk)) ∧ isBk bk ∧ ∀ H', Same H H' → Q .non H'
abbrev sNeedBook : Stmt := top 15
theorem scNeedBook : FnScope ["thing"] ["thing"] (defScope sNeedBook) := ⟨rfl, rfl, rfl, by decide +kernel, rfl, by decide +kernel, by decide +kernel⟩
theorem ok_needbook {f : Addr} {fd : FuncData} (F : Fun K "need_book" "need_book" sNeedBook f fd) (c1 : Cal P w K mg base 2 "is_book" ["thing"] spIsBook) : FnOk P w K mg base CX0 3 f fd ["thing"] spNeedBook := by
  refine F.ok scNeedBook (fun vs H Q E h => ?_) (fun cdv A outer s H vs Q E hr h => ?_)
  · obtain ⟨a, bk, rfl, _⟩ := h; rfl
  · obtain ⟨a, bk, rfl, ha, hb, k⟩ := h
    refine ⟨_, pss_one (ps_if (pt_not (pt_val (pe_cal c1 hr rfl (pa_cons (pv 0) pa_nil)))) (pss_one ps_never) pss_nil), ?_⟩
    exact ⟨_, rfl, a, bk, rfl, ha, hb, fun H' sm => ⟨true, rfl, iteF (k H' sm)⟩⟩
def spNeedOrder : Sp := fun vs H Q _ => ∃ o : Nat, vs = [.int o] ∧ 1 ≤ o ∧ o ≤ 3 ∧ Q .non H
abbrev sNeedOrder : Stmt := top 16
theorem scNeedOrder : FnScope ["thing"] ["thing"] (defScope sNeedOrder) := ⟨rfl, rfl, rfl, by decide +kernel, rfl, by decide +kernel, by decide +kernel⟩
theorem ok_needorder {f : Addr} {fd : FuncData} (F : Fun K "need_order" "need_order" sNeedOrder f fd) (c1 : Cal P w K mg base 2 "is_order" ["thing"] spIsOrder) : FnOk P w K mg base CX0 3 f fd ["thing"] spNeedOrder := by
  refine F.ok scNeedOrder (fun vs H Q E h => ?_) (fun cdv A outer s H vs Q E hr h => ?_)
  · obtain ⟨o, rfl, _⟩ := h; rfl
  · obtain ⟨o, rfl, n1, n2, k⟩ := h
    refine ⟨_, pss_one (ps_if (pt_not (pt_val (pe_cal c1 hr rfl (pa_cons (pv 0) pa_nil)))) (pss_one ps_never) pss_nil), ?_⟩
    exact ⟨_, rfl, o, rfl, n1, n2, true, rfl, iteF k⟩
def spNeedName : Sp := fun vs H Q _ => ∃ x : S, vs = [sv x] ∧ isNm x ∧ ∀ H', Same H H' → Q .non H'
abbrev sNeedName : Stmt := top 17
theorem scNeedName : FnScope ["thing"] ["thing"] (defScope sNeedName) := ⟨rfl, rfl, rfl, by decide +kernel, rfl, by decide +kernel, by decide +kernel⟩
theorem ok_needname {f : Addr} {fd : FuncData} (F : Fun K "need_name" "need_name" sNeedName f fd) (c1 : Cal P w K mg base 1 "is_name" ["thing"] spIsName) : FnOk P w K mg base CX0 2 f fd ["thing"] spNeedName := by
  refine F.ok scNeedName (fun vs H Q E h => ?_) (fun cdv A outer s H vs Q E hr h => ?_)
  · obtain ⟨x, rfl, _⟩ := h; rfl
  · obtain ⟨x, rfl, hx, k⟩ := h
    refine ⟨_, pss_one (ps_if (pt_not (pt_val (pe_cal c1 hr rfl (pa_cons (pv 0) pa_nil)))) (pss_one ps_never) pss_nil), ?_⟩
    exact ⟨_, rfl, x, rfl, hx, fun H' sm => ⟨true, rfl, iteF (k H' sm)⟩⟩
end
end Kn
end
section
set_option Elab.async false
set_option linter.all false
set_option maxRecDepth 100000
set_option maxHeartbeats 1000000
namespace Kn
open PySem L2
theorem tx_inj {a b : S} (h : tx a = tx b) : a = b := by
  have := congrArg (fun z : Str => z.cps.toList) h
  simpa [tx] using this
section
variable {α : Type}
def encD (f : α → V) (l : List (S × α)) : List (Key × V) := encK (l.map fun p => (tx p.1, f p.2))
theorem encD_cons (f : α → V) (p : S × α) (l : List (S × α)) : encD f (p :: l) = ((Sum.inr (tx p.1) : Key), f p.2) :: encD f l := rfl
theorem encD_len (f : α → V) (l : List (S × α)) : (encD f l).length = l.length := by simp [encD, encK]
theorem key_eq {a b : S} : ((Sum.inr (tx a) : Key) = Sum.inr (tx b)) ↔ a = b := ⟨fun h => tx_inj (Sum.inr.inj h), fun h => by rw [h]⟩
theorem val_enc (f : α → V) (l : List (S × α)) (k : S) : valV (encD f l) (Sum.inr (tx k)) = (getA l k).map f := by
  induction l with
  | nil => rfl
  | cons p r ih =>
    rw [encD_cons]
    by_cases e : p.1 = k
    · rw [valV_pos (key_eq.mpr e)]
      obtain ⟨a, b⟩ := p
      have e' : a = k := e
      subst e'
      simp [getA]
    · rw [valV_neg (fun z => e (key_eq.mp z)), ih]
      obtain ⟨a, b⟩ := p
      have e' : ¬ a = k := e
      simp [getA, e']
theorem any_enc (f : α → V) (l : List (S × α)) (k : S) : ((encD f l).any fun kv => decide (kv.1 = (Sum.inr (tx k) : Key))) = decide (k ∈ l.map (·.1)) := by
  induction l with
  | nil => rfl
  | cons p r ih =>
    rw [encD_cons, List.any_cons, ih]
    by_cases e : p.1 = k
    · have : decide ((Sum.inr (tx p.1) : Key) = Sum.inr (tx k)) = true := decide_eq_true (key_eq.mpr e)
      rw [this, Bool.true_or]
      exact (decide_eq_true (by rw [← e]; exact List.mem_cons_self ..)).symm
    · have : decide ((Sum.inr (tx p.1) : Key) = Sum.inr (tx k)) = false := decide_eq_false (fun z => e (key_eq.mp z))
      rw [this, Bool.false_or]
      congr 1
      have e' : ¬ k = p.1 := fun z => e z.symm
      simp [e']
theorem put_enc (f : α → V) (l : List (S × α)) (k : S) (v : α) (nd : (l.map (·.1)).Nodup) : putK (encD f l) (Sum.inr (tx k)) (f v) = encD f (putA l k v) := by
  unfold putK
  rw [any_enc]
  by_cases hk : k ∈ l.map (·.1)
  · rw [if_pos (decide_eq_true hk)]
    induction l with
    | nil => cases hk
    | cons p r ih =>
      obtain ⟨a, b⟩ := p
      have nd' := List.nodup_cons.mp nd
      rw [encD_cons, List.map_cons]
      by_cases e : a = k
      · subst e
        have e1 : putA ((a, b) :: r) a v = (a, v) :: r := by simp [putA]
        rw [e1, encD_cons]
        congr 1
        · simp
        · have : ∀ q ∈ encD f r, (if q.1 = (Sum.inr (tx a) : Key) then (q.1, f v) else q) = q := fun q hq => by
            rw [if_neg]
            intro z
            obtain ⟨s, hs, e2⟩ := List.mem_map.mp hq
            obtain ⟨s', hs', e3⟩ := List.mem_map.mp hs
            have : s.1 = tx s'.1 := by rw [← e3]
            have h4 : q.1 = (Sum.inr (tx s'.1) : Key) := by rw [← e2, this]
            rw [h4] at z
            exact nd'.1 (List.mem_map.mpr ⟨s', hs', key_eq.mp z⟩)
          have h5 := List.map_congr_left this
          rw [h5]; simp
      · have e1 : putA ((a, b) :: r) k v = (a, b) :: putA r k v := by simp [putA, e]
        rw [e1, encD_cons]
        congr 1
        · rw [if_neg (fun z => e (key_eq.mp z))]
        · exact ih nd'.2 (by
            rcases List.mem_cons.mp hk with z | z
            · exact absurd z.symm e
            · exact z)
  · rw [if_neg (by simpa using hk)]
    clear nd
    induction l with
    | nil => rfl
    | cons p r ih =>
      obtain ⟨a, b⟩ := p
      have e : ¬ a = k := fun z => hk (by rw [← z]; exact List.mem_cons_self ..)
      have e1 : putA ((a, b) :: r) k v = (a, b) :: putA r k v := by simp [putA, e]
      rw [e1, encD_cons, encD_cons, List.cons_append, ih fun z => hk (List.mem_cons_of_mem _ z)]
theorem putA_len {β : Type} (l : List (S × β)) (k : S) (v : β) : (putA l k v).length ≤ l.length + 1 := by
  induction l with
  | nil => simp [putA]
  | cons p r ih =>
    obtain ⟨a, b⟩ := p
    by_cases e : a = k
    · simp [putA, e]
    · simp [putA, e]; omega
theorem putA_map {β γ : Type} (g : β → γ) (l : List (S × β)) (k : S) (v : β) : (putA l k v).map (fun p => (p.1, g p.2)) = putA (l.map fun p => (p.1, g p.2)) k (g v) := by
  induction l with
  | nil => rfl
  | cons p r ih =>
    obtain ⟨a, b⟩ := p
    by_cases e : a = k
    · simp [putA, e]
    · simp [putA, e, ih]
theorem getA_map {β γ : Type} (g : β → γ) (l : List (S × β)) (k : S) : getA (l.map fun p => (p.1, g p.2)) k = (getA l k).map g := by
  induction l with
  | nil => rfl
  | cons p r ih =>
    obtain ⟨a, b⟩ := p
    by_cases e : a = k
    · simp [getA, e]
    · simp [getA, e, ih]
theorem putA_mem {β : Type} {l : List (S × β)} {k : S} {v : β} {q : S × β} (h : q ∈ putA l k v) : q = (k, v) ∨ (q ∈ l ∧ (q.1 ≠ k ∨ (l.map (·.1)).Nodup → q.1 ≠ k)) := by
  induction l with
  | nil => simp [putA] at h; exact .inl h
  | cons p r ih =>
    obtain ⟨a, b⟩ := p
    by_cases e : a = k
    · subst e
      have e1 : putA ((a, b) :: r) a v = (a, v) :: r := by simp [putA]
      rw [e1] at h
      rcases List.mem_cons.mp h with z | z
      · exact .inl z
      · refine .inr ⟨List.mem_cons_of_mem _ z, ?_⟩
        rintro (w | w)
        · exact w
        · intro e2
          exact (List.nodup_cons.mp w).1 (by rw [← e2]; exact List.mem_map_of_mem (f := (·.1)) z)
    · have e1 : putA ((a, b) :: r) k v = (a, b) :: putA r k v := by simp [putA, e]
      rw [e1] at h
      rcases List.mem_cons.mp h with z | z
      · subst z
        exact .inr ⟨List.mem_cons_self .., fun _ => e⟩
      · rcases ih z with w | ⟨w1, w2⟩
        · exact .inl w
        · refine .inr ⟨List.mem_cons_of_mem _ w1, ?_⟩
          rintro (u | u)
          · exact u
          · exact w2 (.inr (List.nodup_cons.mp u).2)
theorem putA_new {β : Type} (l : List (S × β)) (k : S) (v : β) (h : k ∉ l.map (·.1)) : putA l k v = l ++ [(k, v)] := by
  induction l with
  | nil => rfl
  | cons q r ih =>
    obtain ⟨a, b⟩ := q
    have e : ¬ a = k := fun z => h (by rw [← z]; exact List.mem_cons_self ..)
    have e1 : putA ((a, b) :: r) k v = (a, b) :: putA r k v := by simp [putA, e]
    rw [e1, ih fun z => h (List.mem_cons_of_mem _ z)]; rfl
theorem putA_same {β γ : Type} (g : β → γ) (l : List (S × β)) (k : S) (v u : β) (h : getA l k = some u) (e : g v = g u) : (putA l k v).map (fun p => (p.1, g p.2)) = l.map fun p => (p.1, g p.2) := by
  induction l with
  | nil => cases h
  | cons p r ih =>
    obtain ⟨a, b⟩ := p
    by_cases ea : a = k
    · have : b = u := by simpa [getA, ea] using h
      subst this
      simp [putA, ea, e]
    · have h' : getA r k = some u := by simpa [getA, ea] using h
      simp [putA, ea, ih h']
theorem rows_len (ps : List (S × S)) : (rowsOf ps).length ≤ ps.length ∧ ∀ r ∈ rowsOf ps, r.2.length ≤ ps.length := by
  have key : ∀ (qs : List (S × S)) (rows : List (S × List (S × Int))) (n : Nat), (rows.length ≤ n ∧ ∀ r ∈ rows, r.2.length ≤ n) → (qs.foldl addP rows).length ≤ n + qs.length ∧ ∀ r ∈ qs.foldl addP rows, r.2.length ≤ n + qs.length := by
    intro qs
    induction qs with
    | nil => intro rows n h; simpa using h
    | cons q qs ih =>
      intro rows n h
      have := ih (addP rows q) (n + 1) ⟨?_, fun r hr => ?_⟩
      · rw [List.foldl_cons, List.length_cons]
        have e : n + (qs.length + 1) = n + 1 + qs.length := by omega
        rw [e]; exact this
      · have := putA_len rows q.1 (bump ((getA rows q.1).getD []) q.2)
        unfold addP; omega
      · rcases putA_mem hr with e | ⟨e, _⟩
        · rw [e]
          have h1 := putA_len ((getA rows q.1).getD []) q.2 ((getA ((getA rows q.1).getD []) q.2).getD 0 + 1)
          have h2 : ((getA rows q.1).getD []).length ≤ n := by
            cases g : getA rows q.1 with
            | none => simp
            | some row =>
              have hm : (q.1, row) ∈ rows := by
                clear h hr e h1
                induction rows with
                | nil => cases g
                | cons p r ih2 =>
                  obtain ⟨a, b⟩ := p
                  by_cases ea : a = q.1
                  · have : b = row := by simpa [getA, ea] using g
                    subst this; subst ea
                    exact List.mem_cons_self ..
                  · exact List.mem_cons_of_mem _ (ih2 (by simpa [getA, ea] using g))
              exact h.2 _ hm
          show (bump _ _).length ≤ _
          unfold bump; omega
        · have := h.2 r e; omega
  have := key ps [] 0 ⟨Nat.le_refl _, by simp⟩
  simpa [rowsOf] using this
end
abbrev rowV (row : List (S × Int)) : List (Key × V) := encD V.int row
structure RA (H0 H : Hp) (d : Addr) (ps : List (S × S)) (ra : List (S × Addr × List (S × Int))) : Prop where
  rows : ra.map (fun r => (r.1, r.2.2)) = rowsOf ps
  top : H d = some (.dK (encD (fun v : Addr × List (S × Int) => V.ref v.1) ra))
  row : ∀ r ∈ ra, H r.2.1 = some (.dK (rowV r.2.2))
  new : ∀ r ∈ ra, H0 r.2.1 = none ∧ r.2.1 ≠ d
  nda : (ra.map fun r => r.2.1).Nodup
def RowsAt (H : Hp) (d : Addr) (ps : List (S × S)) : Prop := ∃ ra : List (S × Addr × List (S × Int)), ra.map (fun r => (r.1, r.2.2)) = rowsOf ps ∧ H d = some (.dK (encD (fun v : Addr × List (S × Int) => V.ref v.1) ra)) ∧ ∀ r ∈ ra, H r.2.1 = some (.dK (rowV r.2.2))
theorem RowsAt.same {H H' : Hp} {d : Addr} {ps : List (S × S)} (h : RowsAt H d ps) (e : Same H H') : RowsAt H' d ps := by
  obtain ⟨ra, h1, h2, h3⟩ := h
  exact ⟨ra, h1, e _ _ h2, fun r hr => e _ _ (h3 r hr)⟩
section
variable {P : Program} {w : World} {K : PySem.W.Frag} {mg : Str → Option Value} {base : Heap}
def spRows : Sp := fun vs H Q _ => ∃ (a : Addr) (bk : List S) (o : Nat), vs = [.ref a, .int o] ∧ H a = some (.tup (bkV bk)) ∧ bk.length ≤ 8 ∧ (∀ x ∈ bk, x.length ≤ 8) ∧ 1 ≤ o ∧ ∀ d H', Same H H' → H d = none → RowsAt H' d (pairsB o bk) → Q (.ref d) H'
abbrev sRows : Stmt := top 20
theorem scRows : FnScope ["book", "order", "rows", "name", "end", "letter", "row"] ["book", "order"] (defScope sRows) := ⟨rfl, rfl, rfl, by decide +kernel, rfl, by decide +kernel, by decide +kernel⟩
theorem keys_nd {H0 H : Hp} {d : Addr} {ps : List (S × S)} {ra : List (S × Addr × List (S × Int))} (R : RA H0 H d ps ra) : (ra.map (·.1)).Nodup := by
  have h := (rows_ok ps).nd
  rw [← R.rows, List.map_map] at h
  exact h
theorem RA.step {H0 H H2 : Hp} {d ad : Addr} {ps : List (S × S)} {ra : List (S × Addr × List (S × Int))} (R : RA H0 H d ps ra) (p : S × S) (row : List (S × Int)) (hrow : row = ((getA ra p.1).map (·.2)).getD [])
    (had : ∀ v, getA ra p.1 = some v → v.1 = ad) (hnew : getA ra p.1 = none → H0 ad = none ∧ ad ≠ d ∧ ad ∉ ra.map fun r => r.2.1)
    (h1 : H2 ad = some (.dK (rowV (bump row p.2)))) (h2 : H2 d = some (.dK (encD (fun v : Addr × List (S × Int) => V.ref v.1) (putA ra p.1 (ad, bump row p.2))))) (h3 : ∀ r ∈ ra, r.2.1 ≠ ad → H2 r.2.1 = some (.dK (rowV r.2.2))) :
    RA H0 H2 d (ps ++ [p]) (putA ra p.1 (ad, bump row p.2)) := by
  have nd := keys_nd R
  have isin : ∀ v, getA ra p.1 = some v → (p.1, v) ∈ ra := fun v hv => (getA_mem nd p.1 v).mpr hv
  have adr : ∀ r ∈ ra, r.1 ≠ p.1 → r.2.1 ≠ ad := fun r hr hne e => by
    cases g : getA ra p.1 with
    | none => exact (hnew g).2.2 (List.mem_map.mpr ⟨r, hr, e⟩)
    | some v =>
      have hv := isin v g
      have ev := had v g
      have : r = (p.1, v) := by
        obtain ⟨i, hi, ei⟩ := List.getElem_of_mem hr
        obtain ⟨j, hj, ej⟩ := List.getElem_of_mem hv
        have hij : i = j := by
          refine (List.getElem_inj (xs := ra.map fun r => r.2.1) (h₀ := by simpa using hi) (h₁ := by simpa using hj) R.nda).mp ?_
          rw [List.getElem_map, List.getElem_map, ei, ej]
          show r.2.1 = v.1
          rw [e, ev]
        subst hij
        rw [← ei, ← ej]
      exact hne (by rw [this])
  refine ⟨?_, h2, fun r hr => ?_, fun r hr => ?_, ?_⟩
  · rw [rowsOf_snoc, ← R.rows]
    unfold addP
    have e := putA_map (fun v : Addr × List (S × Int) => v.2) ra p.1 (ad, bump row p.2)
    rw [e]
    have e2 := getA_map (fun v : Addr × List (S × Int) => v.2) ra p.1
    rw [e2, ← hrow]
  · rcases putA_mem hr with e | ⟨e, e'⟩
    · rw [e]; exact h1
    · exact h3 r e (adr r e (e' (.inr nd)))
  · rcases putA_mem hr with e | ⟨e, _⟩
    · rw [e]
      cases g : getA ra p.1 with
      | none => exact ⟨(hnew g).1, (hnew g).2.1⟩
      | some v =>
        have := R.new _ (isin v g)
        rw [← had v g]; exact this
    · exact R.new r e
  · cases g : getA ra p.1 with
    | none =>
      have hk : p.1 ∉ ra.map (·.1) := getA_none.mp g
      have e := putA_new ra p.1 (ad, bump row p.2) hk
      rw [e, List.map_append]
      refine List.nodup_append.mpr ⟨R.nda, by simp, fun a ha b hb e2 => ?_⟩
      have : b = ad := by simpa using hb
      exact (hnew g).2.2 (by rw [← this, ← e2]; exact ha)
    | some v =>
      have e := putA_same (fun v : Addr × List (S × Int) => v.1) ra p.1 (ad, bump row p.2) v g (had v g).symm
      have e2 : (putA ra p.1 (ad, bump row p.2)).map (fun r => r.2.1) = ra.map fun r => r.2.1 := by
        have := congrArg (List.map Prod.snd) e
        rw [List.map_map, List.map_map] at this
        exact this
      rw [e2]; exact R.nda
def SameQ (H H' : Hp) : Prop := ∀ b o, H b = some o → (∀ kvs, o ≠ .dK kvs) → H' b = some o
theorem Same.q {H H' : Hp} (e : Same H H') : SameQ H H' := fun b o h _ => e b o h
theorem SameQ.trans {H H1 H2 : Hp} (a : SameQ H H1) (b : SameQ H1 H2) : SameQ H H2 := fun c o h hn => b c o (a c o h hn) hn
theorem SameQ.upd {H : Hp} {a : Addr} {kvs : List (Key × V)} {u : HO} (h : H a = some (.dK kvs)) : SameQ H (upd H a u) := fun b o e hn => by
  rw [upd_ne]
  · exact e
  · rintro rfl; rw [h] at e; exact hn kvs (Option.some.inj e).symm
theorem SameQ.sqL {H H' : Hp} (e : SameQ H H') {a : Addr} {xs : List V} (h : SqL K H a xs) : SqL K H' a xs := by
  rcases h with (h | ⟨o, h⟩) | h
  · exact .inl (.inl (e _ _ h (by intro z w; cases w)))
  · exact .inl (.inr ⟨o, e _ _ h (by intro z w; cases w)⟩)
  · exact .inr h
theorem SameQ.sqT {H H' : Hp} (e : SameQ H H') {a : Addr} {xs : List V} (h : SqT K H a xs) : SqT K H' a xs := by
  rcases h with (h | ⟨o, h⟩) | h
  · exact .inl (.inl (e _ _ h (by intro z w; cases w)))
  · exact .inl (.inr ⟨o, e _ _ h (by intro z w; cases w)⟩)
  · exact .inr h
mutual
theorem Rep.sameQ {H H' : Hp} (e : SameQ H H') : ∀ (d : PyData) (v : V), Rep K H d v → Rep K H' d v
  | .none, v, h => h
  | .bool b, v, h => h
  | .int i, v, h => h
  | .str x, v, h => h
  | .list ds, v, h => by
    obtain ⟨a, xs, h1, h2, h3⟩ := h
    exact ⟨a, xs, h1, e.sqL h2, Reps.sameQ e ds xs h3⟩
  | .tuple ds, v, h => by
    obtain ⟨a, xs, h1, h2, h3⟩ := h
    exact ⟨a, xs, h1, e.sqT h2, Reps.sameQ e ds xs h3⟩
  | .dict _, v, h => h
theorem Reps.sameQ {H H' : Hp} (e : SameQ H H') : ∀ (ds : List PyData) (xs : List V), Reps K H ds xs → Reps K H' ds xs
  | [], xs, h => h
  | d :: ds, xs, h => by
    obtain ⟨y, ys, h1, h2, h3⟩ := h
    exact ⟨y, ys, h1, Rep.sameQ e d y h2, Reps.sameQ e ds ys h3⟩
end
theorem encD_same {β : Type} (g : β → V) (l : List (S × β)) (k : S) (v u : β) (h : getA l k = some u) (e : g v = g u) : encD g (putA l k v) = encD g l := by
  have := putA_same g l k v u h e
  unfold encD
  have e2 : ∀ m : List (S × β), m.map (fun p => (tx p.1, g p.2)) = (m.map fun p => (p.1, g p.2)).map fun q => (tx q.1, q.2) := fun m => by rw [List.map_map]; rfl
  rw [e2, e2, this]
theorem row_of {H0 H : Hp} {d : Addr} {ps : List (S × S)} {ra : List (S × Addr × List (S × Int))} (R : RA H0 H d ps ra) {e : S} {v : Addr × List (S × Int)} (h : getA ra e = some v) :
    H v.1 = some (.dK (rowV v.2)) ∧ (v.2.map (·.1)).Nodup ∧ v.2.length ≤ ps.length ∧ H0 v.1 = none ∧ v.1 ≠ d := by
  have hm := (getA_mem (keys_nd R) e v).mpr h
  have hm2 : (e, v.2) ∈ rowsOf ps := by rw [← R.rows]; exact List.mem_map.mpr ⟨(e, v), hm, rfl⟩
  exact ⟨R.row _ hm, (rows_ok ps).ndr e v.2 hm2, (rows_len ps).2 _ hm2, (R.new _ hm).1, (R.new _ hm).2⟩
theorem ok_rows {f : Addr} {fd : FuncData} (F : Fun K "counted_rows" "counted_rows" sRows f fd) (cEnds : Cal P w K mg base 2 "ends_and_letters" ["name", "order"] (spEnds K)) : FnOk P w K mg base CX0 3 f fd ["book", "order"] spRows := by
  refine F.ok scRows (fun vs H Q E h => ?_) (fun cdv A outer s H vs Q E hr h => ?_)
  · obtain ⟨a, bk, o, rfl, _⟩ := h; rfl
  · obtain ⟨a, bk, o, rfl, ha, hb1, hb2, ho, k⟩ := h
    have hu := hu_of hr
    have nd := scRows.nd
    refine ⟨_, pss_cons (ps_set (i := 2) nd rfl (Or.inl rfl) pe_dnewK)
      (pss_cons (ps_for PassesOwn.never rfl (pi_tup (pv 0)) (pg_name (i := 3) nd rfl (Or.inl rfl))
        (pss_one (ps_for PassesOwn.never rfl (pi_list (pe_cal cEnds hr rfl (pa_cons (pv 3) (pa_cons (pv 1) pa_nil))))
          (pg_tup rfl (pgs_cons (pg_name (i := 4) nd rfl (Or.inl rfl)) (pgs_cons (pg_name (i := 5) nd rfl (Or.inl rfl)) pgs_nil)))
          (pss_cons (ps_set (i := 6) nd rfl (Or.inl rfl) (pe_bm PySem.F.plainAttrs_dict PySem.F.slot_dict_setdefault PySem.F.type_dict_setdefault mt_setdefault (pv 2) (pa_cons (pv 4) (pa_cons pe_dnewK pa_nil))))
            (pss_one (ps_dput hu (pv 6) (pv 5) (pe_op op_add (pe_dget2 hu (pv 6) (pv 5) pe_int ⟨rfl, rfl, rfl, rfl⟩) pe_int) rfl))))))
      (pss_one (ps_ret (pv 2)))), ?_⟩
    intro d hd
    have s1 : Same H (upd H d (.dK [])) := Same.upd1 hd
    refine ⟨_, rfl, a, rfl, ⟨_, .of (s1 _ _ ha)⟩, ?_⟩
    refine for_known (known_tup K a (bkV bk)) (fun i σ H' => (∃ x y z u : Option V, σ = [some (.ref a), some (.int o), some (.ref d), x, y, z, u]) ∧ Same H H' ∧ ∃ ra, RA H H' d (pairsB o (bk.take i)) ra)
      ⟨⟨_, _, _, _, rfl⟩, s1, [], ⟨rfl, upd_same, by simp, by simp, by simp⟩⟩ (fun i σ H' _ h => .of (h.2.1 _ _ ha)) ?_ ?_
    · rintro i x σ H' Nx hN hx ⟨⟨x1, x2, x3, x4, rfl⟩, sm, ra, R⟩
      rw [bkV, List.getElem?_map] at hx
      cases e : bk[i]? with
      | none => rw [e] at hx; cases hx
      | some nm =>
      rw [e] at hx
      have hy2 : x = sv nm := (Option.some.inj hx).symm
      subst hy2
      have hnm := hb2 nm (List.mem_of_getElem? e)
      have hi : i < bk.length := (List.getElem?_eq_some_iff.mp e).1
      have etake : bk.take (i + 1) = bk.take i ++ [nm] := by
        rw [List.take_succ_eq_append_getElem hi]
        have := (List.getElem?_eq_some_iff.mp e).2
        rw [this]
      have epairs : pairsB o (bk.take (i + 1)) = pairsB o (bk.take i) ++ pairs1 o nm := by
        rw [etake, pairsB_append]; simp [pairsB]
      have hplen : ((pairsB o (bk.take (i + 1))).length : Int) ≤ 100 := by
        rw [pairsB_length]
        have go : ∀ l : List S, (∀ x ∈ l, x.length ≤ 8) → (l.map fun x => (x.length : Int) + 1).sum ≤ 9 * (l.length : Int) := by
          intro l
          induction l with
          | nil => intro _; simp
          | cons x r ih =>
            intro hl
            have h1 := hl x (List.mem_cons_self ..)
            have h2 := ih fun y hy => hl y (List.mem_cons_of_mem _ hy)
            rw [List.map_cons, List.sum_cons, List.length_cons]
            have : ((r.length + 1 : Nat) : Int) = (r.length : Int) + 1 := rfl
            omega
        have := go (bk.take (i + 1)) fun x hx => hb2 x (List.mem_of_mem_take hx)
        have h3 : (bk.take (i + 1)).length ≤ 8 := by rw [List.length_take]; omega
        omega
      refine ⟨_, rfl, _, rfl, nm, o, rfl, ho, by omega, fun l xs Hl sml hln hll rp => ?_⟩
      refine ⟨l, rfl, ⟨_, .of hll⟩, ?_⟩
      have R1 : RA H Hl d (pairsB o (bk.take i)) ra := ⟨R.rows, sml _ _ R.top, fun r hr => sml _ _ (R.row r hr), R.new, R.nda⟩
      have hld : H l = none := sm.free hln
      have hdl : l ≠ d := ne_of hll (sml _ _ R.top) (by intro z; cases z)
      refine for_known (known_list K l xs) (fun j σ H2 => (∃ y z u : Option V, σ = [some (.ref a), some (.int o), some (.ref d), some (sv nm), y, z, u]) ∧ Same H H2 ∧ H2 l = some (.lst xs) ∧ Reps K H2 ((pairs1 o nm).map elD) xs ∧ ∃ ra, RA H H2 d (pairsB o (bk.take i) ++ (pairs1 o nm).take j) ra ∧ ∀ r ∈ ra, r.2.1 ≠ l)
        ⟨⟨_, _, _, rfl⟩, sm.trans sml, hll, rp, ra, by simpa using R1, fun r hr => ne_of (R1.row r hr) hll (by intro z; cases z)⟩ (fun j σ H2 _ h => .of h.2.2.1) ?_ ?_
      · rintro j x σ H2 Nx2 hN2 hx2 ⟨⟨y, z, u, rfl⟩, sm2, hl2, rp2, ra2, R2, hal⟩
        obtain ⟨dd, hdd, rx⟩ := rp2.get hx2
        rw [List.getElem?_map] at hdd
        cases ep : (pairs1 o nm)[j]? with
        | none => rw [ep] at hdd; cases hdd
        | some p =>
        rw [ep] at hdd
        have hd2 : dd = elD p := (Option.some.inj hdd).symm
        subst hd2
        obtain ⟨at', xs', rfl, hsq, y1, ys1', rfl, ry1, y2, ys2', rfl, ry2, hnil⟩ := rx
        have ey1 : y1 = sv p.1 := ry1
        have ey2 : y2 = sv p.2 := ry2
        have en : ys2' = [] := hnil
        subst ey1 ey2 en
        have hj : j < (pairs1 o nm).length := (List.getElem?_eq_some_iff.mp ep).1
        have etk : pairsB o (bk.take i) ++ (pairs1 o nm).take (j + 1) = (pairsB o (bk.take i) ++ (pairs1 o nm).take j) ++ [p] := by
          rw [List.take_succ_eq_append_getElem hj, (List.getElem?_eq_some_iff.mp ep).2, List.append_assoc]
        generalize hps : pairsB o (bk.take i) ++ (pairs1 o nm).take j = ps at R2 etk
        have hpl : ps.length ≤ 100 := by
          have h1 : ps.length ≤ (pairsB o (bk.take (i + 1))).length := by
            rw [← hps, epairs, List.length_append, List.length_append, List.length_take]; omega
          omega
        have hral : ra2.length ≤ 100 := by
          have h1 := (rows_len ps).1
          rw [← R2.rows, List.length_map] at h1
          omega
        refine ⟨at', [sv p.1, sv p.2], rfl, hsq, rfl, _, _, rfl, _, _, rfl, rfl, ?_⟩
        refine ⟨_, rfl, .inr (.inr (.inl ⟨rfl, .inl ⟨_, R2.top⟩⟩)), _, rfl, fun e0 he0 => ?_⟩
        have he0H : H e0 = none := sm2.free he0
        have hde : d ≠ e0 := ne_of_none R2.top he0
        have s3 : Same H2 (upd H2 e0 (.dK [])) := Same.upd1 he0
        have fin : ∀ (ad : Addr) (row : List (S × Int)) (Hx : Hp), Hx ad = some (.dK (rowV row)) → (row.map (·.1)).Nodup → row.length ≤ 100 → (∀ H4, H4 = upd Hx ad (.dK (rowV (bump row p.2))) → Nx2 [some (.ref a), some (.int o), some (.ref d), some (sv nm), some (sv p.1), some (sv p.2), some (.ref ad)] H4) →
            sDPut (tVar 6) (tVar 5) (tOp (rI0 fun i j => V.int (i + j)) (tDGet2 (tVar 6) (tVar 5) (tC (.int 0))) (tC (.int 1))) { nx := Nx2, rt := Q, bk := fun _ _ => False, ct := fun _ _ => False } [some (.ref a), some (.int o), some (.ref d), some (sv nm), some (sv p.1), some (sv p.2), some (.ref ad)] Hx := by
          intro ad row Hx hrow hnd hrl hq
          refine ⟨_, rfl, ad, rfl, .inl ⟨_, .inl hrow⟩, _, rfl, _, DGet.k (k := Sum.inr (tx p.2)) hrow, (getA row p.2).getD 0, 1, ?_, rfl, ?_⟩
          · rw [val_enc]
            cases getA row p.2 <;> rfl
          · refine ⟨_, rfl, _, rfl, ad, _, rfl, DPut.k (k := Sum.inr (tx p.2)) hrow (by rw [encD_len, sizeLine_eq]; omega), hq _ ?_⟩
            rw [put_enc V.int row p.2 _ hnd]
            rfl
        have common : ∀ (ad : Addr) (row : List (S × Int)) (Hx H4 : Hp), Same H Hx → H ad = none → Hx l = some (.lst xs) → Reps K Hx ((pairs1 o nm).map elD) xs → H4 = upd Hx ad (.dK (rowV (bump row p.2))) → Hx ad = some (.dK (rowV row)) → RA H H4 d (ps ++ [p]) (putA ra2 p.1 (ad, bump row p.2)) →
            Nx2 [some (.ref a), some (.int o), some (.ref d), some (sv nm), some (sv p.1), some (sv p.2), some (.ref ad)] H4 := by
          intro ad row Hx H4 sx had hxl hxr e4 hrow RR
          have hadl : ad ≠ l := ne_of hrow hxl (by intro z; cases z)
          subst e4
          refine hN2 _ _ ⟨⟨_, _, _, rfl⟩, sx.upd_new had, by rw [upd_ne hadl.symm]; exact hxl, Reps.sameQ (SameQ.upd hrow) _ _ hxr, _, by rw [etk]; exact RR, fun r hr => ?_⟩
          rcases putA_mem hr with e | ⟨e, _⟩
          · rw [e]; exact hadl
          · exact hal r e
        have hx3 : upd H2 e0 (.dK []) d = some (.dK (encD (fun v : Addr × List (S × Int) => V.ref v.1) ra2)) := by rw [upd_ne hde]; exact R2.top
        have hl3 : upd H2 e0 (.dK []) l = some (.lst xs) := s3 _ _ hl2
        have hr3 : ∀ r ∈ ra2, upd H2 e0 (.dK []) r.2.1 = some (.dK (rowV r.2.2)) := fun r hr => s3 _ _ (R2.row r hr)
        have hre : ∀ r ∈ ra2, r.2.1 ≠ e0 := fun r hr => ne_of_none (R2.row r hr) he0
        refine ⟨d, _, Sum.inr (tx p.1), _, rfl, rfl, hx3, by rw [encD_len, sizeLine_eq]; omega, fun yv hyv => ?_, fun hnv => ?_⟩
        ·
          rw [val_enc] at hyv
          cases g : getA ra2 p.1 with
          | none => rw [g] at hyv; cases hyv
          | some v =>
          rw [g] at hyv
          have ev : yv = .ref v.1 := (Option.some.inj hyv).symm
          subst ev
          obtain ⟨r1, r2, r3, r4, r5⟩ := row_of R2 g
          have hrow3 : upd H2 e0 (.dK []) v.1 = some (.dK (rowV v.2)) := s3 _ _ r1
          refine fin v.1 v.2 _ hrow3 r2 (by omega) fun H4 e4 => common v.1 v.2 _ H4 (sm2.trans s3) r4 hl3 (Reps.same s3 _ _ rp2) e4 hrow3 ?_
          refine R2.step p v.2 (by rw [g]; rfl) (fun v' hv' => by rw [g] at hv'; rw [Option.some.inj hv']) (fun hn => by rw [g] at hn; cases hn) (by rw [e4, upd_same]) ?_ fun r hr hne => ?_
          · rw [e4, upd_ne r5.symm, hx3]
            have := encD_same (fun v : Addr × List (S × Int) => V.ref v.1) ra2 p.1 (v.1, bump v.2 p.2) v g rfl
            rw [this]
          · rw [e4, upd_ne hne]; exact hr3 r hr
        ·
          rw [val_enc] at hnv
          have g : getA ra2 p.1 = none := by
            cases g : getA ra2 p.1 with
            | none => rfl
            | some v => rw [g] at hnv; cases hnv
          have hp2 := put_enc (fun v : Addr × List (S × Int) => V.ref v.1) ra2 p.1 (e0, []) (keys_nd R2)
          have hHx : upd (upd H2 e0 (.dK [])) d (.dK (putK (encD (fun v : Addr × List (S × Int) => V.ref v.1) ra2) (Sum.inr (tx p.1)) (.ref e0))) e0 = some (.dK (rowV [])) := by
            rw [upd_ne hde.symm, upd_same]; rfl
          refine fin e0 [] _ hHx (by simp) (by simp) fun H4 e4 => common e0 [] _ H4 ((sm2.trans s3).upd_new hd) he0H (by rw [upd_ne hdl]; exact hl3) (Reps.sameQ (SameQ.upd hx3) _ _ (Reps.same s3 _ _ rp2)) e4 hHx ?_
          refine R2.step p [] (by rw [g]; rfl) (fun v' hv' => by rw [g] at hv'; cases hv') (fun _ => ⟨he0H, hde.symm, fun hm => ?_⟩) (by rw [e4, upd_same]) ?_ fun r hr hne => ?_
          · obtain ⟨r, hr, e⟩ := List.mem_map.mp hm
            exact hre r hr e
          · rw [e4, upd_ne hde, upd_same, hp2]
            congr 2
            have hk : p.1 ∉ ra2.map (·.1) := getA_none.mp g
            rw [putA_new _ _ _ hk, putA_new _ _ _ hk]
            unfold encD encK
            rw [List.map_append, List.map_append, List.map_append, List.map_append]
            rfl
          · rw [e4, upd_ne hne, upd_ne (R2.new r hr).2]; exact hr3 r hr
      · rintro σ H2 ⟨⟨y, z, u, rfl⟩, sm2, hl2, rp2, ra2, R2, _⟩
        refine hN _ _ ⟨⟨_, _, _, _, rfl⟩, sm2, ra2, ?_⟩
        rw [epairs]
        have hxl : xs.length = (pairs1 o nm).length := by have := rp2.length; simpa using this.symm
        rw [hxl, List.take_length] at R2
        exact R2
    · rintro σ H' ⟨⟨x1, x2, x3, x4, rfl⟩, sm, ra, R⟩
      refine ⟨_, rfl, k d H' sm hd ⟨ra, ?_, R.top, R.row⟩⟩
      rw [R.rows]
      have : (bkV bk).length = bk.length := by simp [bkV]
      rw [this, List.take_length]
end
end Kn
end
section
set_option Elab.async false
set_option linter.all false
set_option maxRecDepth 100000
set_option maxHeartbeats 1000000
namespace Kn
open PySem L2
section
variable {P : Program} {w : World} {K : PySem.W.Frag} {mg : Str → Option Value} {base : Heap}
theorem gcd_step {a b : Int} (ha : 0 ≤ a) (hb : 0 < b) : Int.gcd b (a % b) = Int.gcd a b := by
  obtain ⟨x, rfl⟩ := Int.eq_ofNat_of_zero_le ha
  obtain ⟨y, rfl⟩ := Int.eq_ofNat_of_zero_le (Int.le_of_lt hb)
  have e : ((x : Int) % (y : Int)) = ((x % y : Nat) : Int) := rfl
  rw [e]
  show Nat.gcd y (x % y) = Nat.gcd x y
  rw [Nat.gcd_comm y (x % y), ← Nat.gcd_rec, Nat.gcd_comm]
def spGcd : Sp := fun vs H Q _ => ∃ u d : Int, vs = [.int u, .int d] ∧ 0 ≤ u ∧ 0 < d ∧ d < 1073741824 ∧ Q (.int (gcdI u d)) H
abbrev sGcd : Stmt := top 24
theorem scGcd : FnScope ["one", "other", "rest"] ["one", "other"] (defScope sGcd) := ⟨rfl, rfl, rfl, by decide +kernel, rfl, by decide +kernel, by decide +kernel⟩
theorem ok_gcd {f : Addr} {fd : FuncData} (F : Fun K "greatest_divisor" "greatest_divisor" sGcd f fd) : FnOk P w K mg base CX0 1 f fd ["one", "other"] spGcd := by
  refine F.ok scGcd (fun vs H Q E h => ?_) (fun cdv A outer s H vs Q E hr h => ?_)
  · obtain ⟨a, b, rfl, _⟩ := h; rfl
  · obtain ⟨u, d, rfl, hu0, hd0, hd1, k⟩ := h
    have nd := scGcd.nd
    refine ⟨_, pss_cons (ps_while PassesOwn.never (pt_cmpR op_ne (pv 1) pe_int (nomark _))
        (pss_cons (ps_set (i := 2) nd rfl (Or.inl rfl) (pe_op op_mod (pv 0) (pv 1))) (pss_cons (ps_set (i := 0) nd rfl (Or.inl rfl) (pv 1)) (pss_one (ps_set (i := 1) nd rfl (Or.inl rfl) (pv 2))))))
      (pss_one (ps_ret (pv 0))), ?_⟩
    refine ⟨fun m σ H' => H' = H ∧ ∃ (a b : Int) (r : Option V), σ = [some (.int a), some (.int b), r] ∧ m = b.toNat ∧ 0 ≤ a ∧ 0 ≤ b ∧ b < 1073741824 ∧ Int.gcd a b = Int.gcd u d, ⟨_, rfl, u, d, none, rfl, rfl, hu0, Int.le_of_lt hd0, hd1, rfl⟩, ?_⟩
    rintro m σ H' ⟨rfl, a, b, r, rfl, rfl, ha, hb, hb1, hg⟩
    refine ⟨_, rfl, rfl, _, rfl, ?_⟩
    by_cases hz : b = 0
    · subst hz
      refine iteNS rfl ⟨_, rfl, ?_⟩
      have e : a = gcdI u d := by
        unfold gcdI
        rw [← hg]
        obtain ⟨x, rfl⟩ := Int.eq_ofNat_of_zero_le ha
        simp
      show Q (.int a) H'
      rw [e]
      exact k
    · have hb0 : 0 < b := by omega
      have hne : ¬ (V.int b = V.int 0) := fun z => hz (V.int.inj z)
      have et : (!decide (V.int b = V.int 0)) = true := by rw [decide_eq_false hne]; rfl
      show if (!decide (V.int b = V.int 0)) = true then _ else _
      rw [if_pos et]
      refine ⟨fun σ' H'' => H'' = H' ∧ σ' = [some (.int b), some (.int (a % b)), some (.int (a % b))], ?_, ?_⟩
      · rintro σ' H'' ⟨rfl, rfl⟩
        have h1 := Int.emod_nonneg a hz
        have h2 := Int.emod_lt_of_pos a hb0
        exact ⟨(a % b).toNat, by omega, rfl, b, a % b, _, rfl, rfl, hb, h1, by omega, by rw [gcd_step ha hb0]; exact hg⟩
      · exact ⟨_, rfl, _, rfl, _, _, rfl, rfl, hb0, _, rfl, _, rfl, rfl, rfl⟩
abbrev frO (q : Int × Int) : HO := .tup [.int q.1, .int q.2]
def spLow : Sp := fun vs H Q _ => ∃ u d : Int, vs = [.int u, .int d] ∧ 0 ≤ u ∧ 0 < d ∧ d < 1073741824 ∧ ∀ p, H p = none → Q (.ref p) (upd H p (frO (low u d)))
abbrev sLow : Stmt := top 25
theorem scLow : FnScope ["up", "down", "divisor"] ["up", "down"] (defScope sLow) := ⟨rfl, rfl, rfl, by decide +kernel, rfl, by decide +kernel, by decide +kernel⟩
theorem ok_low {f : Addr} {fd : FuncData} (F : Fun K "lowest" "lowest" sLow f fd) (c1 : Cal P w K mg base 1 "greatest_divisor" ["one", "other"] spGcd) : FnOk P w K mg base CX0 2 f fd ["up", "down"] spLow := by
  refine F.ok scLow (fun vs H Q E h => ?_) (fun cdv A outer s H vs Q E hr h => ?_)
  · obtain ⟨a, b, rfl, _⟩ := h; rfl
  · obtain ⟨u, d, rfl, hu0, hd0, hd1, k⟩ := h
    have nd := scLow.nd
    refine ⟨_, pss_cons (ps_set (i := 2) nd rfl (Or.inl rfl) (pe_cal c1 hr rfl (pa_cons (pv 0) (pa_cons (pv 1) pa_nil))))
      (pss_one (ps_ret (pe_tup (pa_cons (pe_op op_fdiv (pv 0) (pv 2)) (pa_cons (pe_op op_fdiv (pv 1) (pv 2)) pa_nil))))), ?_⟩
    have g1 := gcdI_pos (u := u) hd0
    have g2 : gcdI u d ≤ d := Int.le_of_dvd hd0 (Int.gcd_dvd_right ..)
    refine ⟨_, rfl, _, rfl, u, d, rfl, hu0, hd0, hd1, ?_⟩
    exact ⟨_, rfl, _, rfl, _, _, rfl, rfl, ⟨g1, by omega⟩, _, rfl, _, rfl, _, _, rfl, rfl, ⟨g1, by omega⟩, by show 2 ≤ sizeLine; decide, k⟩
structure Sm (q : Int × Int) : Prop extends Fq q where
  u1 : q.1 < 1073741824
  d1 : q.2 < 1073741824
def FrA (K : PySem.W.Frag) (H : Hp) (v : V) (q : Int × Int) : Prop := ∃ a, v = .ref a ∧ SqT K H a [.int q.1, .int q.2]
theorem FrA.same {H H' : Hp} {v : V} {q : Int × Int} (h : FrA K H v q) (e : Same H H') : FrA K H' v q := by
  obtain ⟨a, h1, h2⟩ := h
  exact ⟨a, h1, e.seqT h2⟩
theorem FrA.new {H : Hp} {p : Addr} {q : Int × Int} : FrA K (upd H p (frO q)) (.ref p) q := ⟨p, rfl, .of upd_same⟩
theorem FrA.rep {H : Hp} {v : V} {q : Int × Int} (h : FrA K H v q) : Rep K H (.tuple [.int q.1, .int q.2]) v := by
  obtain ⟨a, h1, h2⟩ := h
  exact ⟨a, _, h1, h2, _, _, rfl, rfl, _, _, rfl, rfl, rfl⟩
theorem FrA.of_rep {H : Hp} {v : V} {q : Int × Int} (h : Rep K H (.tuple [.int q.1, .int q.2]) v) : FrA K H v q := by
  obtain ⟨a, xs, h1, h2, y, ys, rfl, h3, z, zs, rfl, h4, h5⟩ := h
  have e1 : y = .int q.1 := h3
  have e2 : z = .int q.2 := h4
  have e3 : zs = [] := h5
  subst e1 e2 e3
  exact ⟨a, h1, h2⟩
def spTimes (K : PySem.W.Frag) : Sp := fun vs H Q _ => ∃ (x y : V) (p q : Int × Int), vs = [x, y] ∧ FrA K H x p ∧ FrA K H y q ∧ Sm p ∧ Sm q ∧ p.2 * q.2 < 1073741824 ∧ ∀ a, H a = none → Q (.ref a) (upd H a (frO (tms p q)))
def spLess (K : PySem.W.Frag) : Sp := fun vs H Q _ => ∃ (x y : V) (p q : Int × Int), vs = [x, y] ∧ FrA K H x p ∧ FrA K H y q ∧ Sm p ∧ Sm q ∧ Q (.bl (lss p q)) H
abbrev sTimes : Stmt := top 26
abbrev sLess : Stmt := top 27
theorem scTimes : FnScope ["one", "other"] ["one", "other"] (defScope sTimes) := ⟨rfl, rfl, rfl, by decide +kernel, rfl, by decide +kernel, by decide +kernel⟩
theorem scLess : FnScope ["one", "other"] ["one", "other"] (defScope sLess) := ⟨rfl, rfl, rfl, by decide +kernel, rfl, by decide +kernel, by decide +kernel⟩
theorem cm {p : Int} (a : 0 ≤ p) (b : p < 1073741824) (q : Int) : CMul p q := .inl ⟨by omega, by omega⟩
theorem ok_times {f : Addr} {fd : FuncData} (F : Fun K "times" "times" sTimes f fd) (c1 : Cal P w K mg base 2 "lowest" ["up", "down"] spLow) : FnOk P w K mg base CX0 3 f fd ["one", "other"] (spTimes K) := by
  refine F.ok scTimes (fun vs H Q E h => ?_) (fun cdv A outer s H vs Q E hr h => ?_)
  · obtain ⟨x, y, p, q, rfl, _⟩ := h; rfl
  · obtain ⟨x, y, p, q, rfl, ⟨a, rfl, ha⟩, ⟨b, rfl, hb⟩, sp, sq, hpq, k⟩ := h
    refine ⟨_, pss_one (ps_ret (pe_cal c1 hr rfl (pa_cons (pe_op op_mul (pe_ix ix_tup (pv 0) pe_int (fun _ _ => rfl)) (pe_ix ix_tup (pv 1) pe_int (fun _ _ => rfl)))
      (pa_cons (pe_op op_mul (pe_ix ix_tup (pv 0) pe_int (fun _ _ => rfl)) (pe_ix ix_tup (pv 1) pe_int (fun _ _ => rfl))) pa_nil)))), ?_⟩
    have p0 := sp.up; have q0 := sq.up; have p1 := sp.dn; have q1 := sq.dn
    refine ⟨_, rfl, a, _, 0, _, rfl, rfl, ha, rfl, _, rfl, b, _, 0, _, rfl, rfl, hb, rfl, _, _, rfl, rfl, cm p0 sp.u1 _, ?_⟩
    refine ⟨_, rfl, a, _, 1, _, rfl, rfl, ha, rfl, _, rfl, b, _, 1, _, rfl, rfl, hb, rfl, _, _, rfl, rfl, cm (Int.le_of_lt p1) sp.d1 _, ?_⟩
    exact ⟨_, _, rfl, Int.mul_nonneg p0 q0, Int.mul_pos p1 q1, hpq, k⟩
theorem ok_less {f : Addr} {fd : FuncData} (F : Fun K "is_less" "is_less" sLess f fd) : FnOk P w K mg base CX0 1 f fd ["one", "other"] (spLess K) := by
  refine F.ok scLess (fun vs H Q E h => ?_) (fun cdv A outer s H vs Q E hr h => ?_)
  · obtain ⟨x, y, p, q, rfl, _⟩ := h; rfl
  · obtain ⟨x, y, p, q, rfl, ⟨a, rfl, ha⟩, ⟨b, rfl, hb⟩, sp, sq, k⟩ := h
    refine ⟨_, pss_one (ps_ret (pe_cmpR op_lt (pe_op op_mul (pe_ix ix_tup (pv 0) pe_int (fun _ _ => rfl)) (pe_ix ix_tup (pv 1) pe_int (fun _ _ => rfl))) (pe_op op_mul (pe_ix ix_tup (pv 1) pe_int (fun _ _ => rfl)) (pe_ix ix_tup (pv 0) pe_int (fun _ _ => rfl))) (nomark _))), ?_⟩
    have p0 := sp.up; have q0 := sq.up
    refine ⟨_, rfl, a, _, 0, _, rfl, rfl, ha, rfl, _, rfl, b, _, 1, _, rfl, rfl, hb, rfl, _, _, rfl, rfl, cm p0 sp.u1 _, ?_⟩
    exact ⟨_, rfl, b, _, 0, _, rfl, rfl, hb, rfl, _, rfl, a, _, 1, _, rfl, rfl, ha, rfl, _, _, rfl, rfl, cm q0 sq.u1 _, _, _, rfl, rfl, k⟩
end
end Kn
end
section
set_option Elab.async false
set_option linter.all false
set_option maxRecDepth 100000
set_option maxHeartbeats 1000000
namespace Kn
open PySem L2
theorem row_total {ps : List (S × S)} {e : S} {xs : List (S × Int)} (nd : (xs.map (·.1)).Nodup) (mem : ∀ l n, (l, n) ∈ xs ↔ n = (ps.count (e, l) : Int) ∧ 0 < n) : (xs.map (·.2)).sum = (tot ps e : Int) := by
  have h := sum_counts (ps.filter fun p => decide (p.1 = e)) (xs.map fun p => (e, p.1)) ?_ ?_
  · unfold tot
    rw [← h, List.map_map]
    congr 1
    apply List.map_congr_left
    rintro ⟨l, n⟩ hm
    have := ((mem l n).mp hm).1
    show n = (List.count (e, l) (ps.filter fun p => decide (p.1 = e)) : Int)
    rw [List.count_filter (by simp)]
    exact this
  · have := nd
    rw [List.Nodup, List.pairwise_map] at this ⊢
    exact this.imp fun {p q} hpq z => hpq (congrArg Prod.snd z)
  · rintro ⟨e', l⟩ hm
    obtain ⟨h1, h2⟩ := List.mem_filter.mp hm
    have h2' : e' = e := by simpa using h2
    subst h2'
    exact List.mem_map.mpr ⟨(l, (ps.count (e', l) : Int)), (mem l _).mpr ⟨rfl, by
      have := List.count_pos_iff.mpr h1
      omega⟩, rfl⟩
def rowOf (ps : List (S × S)) (e : S) : List (S × Int) := (getA (rowsOf ps) e).getD []
theorem rowOf_nd (ps : List (S × S)) (e : S) : ((rowOf ps e).map (·.1)).Nodup := by
  unfold rowOf
  cases g : getA (rowsOf ps) e with
  | none => simp
  | some row => exact (rows_ok ps).ndr e row ((getA_mem (rows_ok ps).nd e row).mpr g)
theorem rowOf_get (ps : List (S × S)) (e l : S) : getA (rowOf ps e) l = if 0 < ps.count (e, l) then some (ps.count (e, l) : Int) else none := (rows_ok ps).val e l
theorem rowOf_mem (ps : List (S × S)) (e l : S) (n : Int) : (l, n) ∈ rowOf ps e ↔ n = (ps.count (e, l) : Int) ∧ 0 < n := by
  rw [getA_mem (rowOf_nd ps e), rowOf_get]
  by_cases c : 0 < ps.count (e, l)
  · rw [if_pos c]
    constructor
    · intro z
      have := Option.some.inj z
      omega
    · rintro ⟨z, _⟩; rw [z]
  · rw [if_neg c]
    constructor
    · intro z; cases z
    · rintro ⟨z1, z2⟩; omega
theorem rowOf_total (ps : List (S × S)) (e : S) : ((rowOf ps e).map (·.2)).sum = (tot ps e : Int) := row_total (rowOf_nd ps e) (rowOf_mem ps e)
theorem tot_le (ps : List (S × S)) (e : S) : tot ps e ≤ ps.length := List.length_filter_le ..
structure Cst2 (K : PySem.W.Frag) (mg : Str → Option Value) : Prop where
  nought : ∃ a, mg "NOUGHT" = some (.ref a) ∧ ∀ H, SqT K H a [.int 0, .int 1]
  whole : ∃ a, mg "WHOLE" = some (.ref a) ∧ ∀ H, SqT K H a [.int 1, .int 1]
section
variable {P : Program} {w : World} {K : PySem.W.Frag} {mg : Str → Option Value} {base : Heap}
def spPart (K : PySem.W.Frag) : Sp := fun vs H Q _ => ∃ (d : Addr) (ps : List (S × S)) (e l : S), vs = [.ref d, sv l] ∧ H d = some (.dK (rowV (rowOf ps e))) ∧ ps.length < 1000 ∧ ∀ v H', Same H H' → FrA K H' v (part ps e l) → Q v H'
abbrev sPart : Stmt := top 28
theorem scPart : FnScope ["row", "letter"] ["row", "letter"] (defScope sPart) := ⟨rfl, rfl, rfl, by decide +kernel, rfl, by decide +kernel, by decide +kernel⟩
theorem ok_part {f : Addr} {fd : FuncData} (F : Fun K "part_in" "part_in" sPart f fd) (B : Blt mg) (C : Cst2 K mg) (c1 : Cal P w K mg base 2 "lowest" ["up", "down"] spLow) : FnOk P w K mg base CX0 3 f fd ["row", "letter"] (spPart K) := by
  obtain ⟨aN, hN, tN⟩ := C.nought
  refine F.ok scPart (fun vs H Q E h => ?_) (fun cdv A outer s H vs Q E hr h => ?_)
  · obtain ⟨d, ps, e, l, rfl, _⟩ := h; rfl
  · obtain ⟨d, ps, e, l, rfl, hd, hl, k⟩ := h
    have hu := hu_of hr
    refine ⟨_, pss_cons (ps_if (pt_cmp (pc_dnotin hu (pv 1) (pv 0))) (pss_one (ps_ret (pe_glob (v := .ref aN) (by rfl) hN rfl))) pss_nil)
      (pss_one (ps_ret (pe_cal c1 hr rfl (pa_cons (pe_dget hu (pv 0) (pv 1) (fun _ _ => rfl)) (pa_cons (pe_callB (call_sumVals rfl) (by rfl) B.sum PyProof.Rows.boot_sum (pa_cons (pe_bm0 PySem.F.plainAttrs_dict PySem.F.slot_dict_values PySem.F.type_dict_values mt_values (pv 0)) pa_nil)) pa_nil))))), ?_⟩
    refine ⟨_, rfl, _, rfl, d, _, rfl, DGet.k (k := Sum.inr (tx l)) hd, _, rfl, ?_⟩
    rw [val_enc, rowOf_get]
    by_cases c : 0 < ps.count (e, l)
    · rw [if_pos c]
      refine iteF ?_
      refine ⟨_, rfl, _, rfl, d, .int (ps.count (e, l) : Int), rfl, ?_, ?_⟩
      · have := DGet.k (k := Sum.inr (tx l)) hd
        rw [val_enc, rowOf_get, if_pos c] at this
        exact this
      refine ⟨_, rfl, .inr (.inr (.inl ⟨rfl, .inl ⟨_, hd⟩⟩)), d, _, rfl, rfl, hd, fun p hp => ?_⟩
      have s1 : Same H (upd H p (VLS p d)) := Same.upd1 hp
      refine ⟨p, d, (rowOf ps e).map (fun q => ((Sum.inr (tx q.1) : Key), q.2)), rfl, upd_same, ?_, ?_⟩
      · rw [s1 _ _ hd]
        unfold rowV encD encK
        rw [List.map_map, List.map_map]; rfl
      · have e1 : (((rowOf ps e).map fun q => ((Sum.inr (tx q.1) : Key), q.2)).map (·.2)).sum = (tot ps e : Int) := by
          rw [List.map_map]; exact rowOf_total ps e
        rw [e1]
        have h1 := count_le_tot ps e l
        have h2 := tot_le ps e
        refine ⟨_, _, rfl, by omega, by omega, by omega, fun p2 hp2 => k _ _ (s1.trans (Same.upd1 hp2)) ?_⟩
        have : part ps e l = low (ps.count (e, l) : Int) (tot ps e : Int) := by unfold part; rw [if_neg (by omega)]
        rw [this]
        exact FrA.new
    · rw [if_neg c]
      refine iteT ?_
      have : part ps e l = (0, 1) := by unfold part; rw [if_pos (by omega)]
      exact k _ _ (Same.refl H) (by rw [this]; exact ⟨aN, rfl, tN _⟩)
end
end Kn
end
section
set_option Elab.async false
set_option linter.all false
set_option maxRecDepth 100000
set_option maxHeartbeats 1000000
namespace Kn
open PySem L2
section
variable {P : Program} {w : World} {K : PySem.W.Frag} {mg : Str → Option Value} {base : Heap}
theorem pg_tupK {X : Cx} (K' : PySem.W.Frag) {pos : Pos} {es : List Expr} {k : Nat} {t : TGs} (n : Nat) (hK : X.K = K') (hc : X.calm = true) (h : PGs X es t)
    (hn : (assignEach es X.env).length = n) (hst : (assignEach es X.env).findIdx? (·.1) = none) : PG X (.Tuple es k pos) (gTup K' n t) := by
  subst hK
  exact pg_tup hc h hn hst
def frD (q : Int × Int) : PyData := .tuple [.int q.1, .int q.2]
def stD (ps : List (S × S)) (p : S × S) : PyData := .tuple [.str (tx p.1), .str (tx p.2), frD (part ps p.1 p.2)]
def spStepsR (K : PySem.W.Frag) : Sp := fun vs H Q _ => ∃ (d : Addr) (ps : List (S × S)) (o : Nat) (nm : S), vs = [.ref d, .int o, sv nm] ∧ RowsAt H d ps ∧ ps.length < 1000 ∧ 1 ≤ o ∧ nm.length ≤ 64 ∧
  ∀ a xs H', Same H H' → H a = none → H' a = some (.lst xs) → Reps K H' ((pairs1 o nm).map (stD ps)) xs → Q (.ref a) H'
abbrev sStepsR : Stmt := top 29
theorem scStepsR : FnScope ["rows", "order", "name"] ["rows", "order", "name"] (defScope sStepsR) := ⟨rfl, rfl, rfl, by decide +kernel, rfl, by decide +kernel, by decide +kernel⟩
theorem nd3 : (["rows", "end", "letter"] : List Str).Nodup := by decide +kernel
theorem RowsAt.get {H : Hp} {d : Addr} {ps : List (S × S)} (h : RowsAt H d ps) (e : S) : ∃ kvs : List (Key × V), H d = some (.dK kvs) ∧ ((valV kvs (Sum.inr (tx e)) = none ∧ rowOf ps e = []) ∨ ∃ a, valV kvs (Sum.inr (tx e)) = some (.ref a) ∧ H a = some (.dK (rowV (rowOf ps e)))) := by
  obtain ⟨ra, h1, h2, h3⟩ := h
  refine ⟨_, h2, ?_⟩
  rw [val_enc]
  have nd : (ra.map (·.1)).Nodup := by
    have h := (rows_ok ps).nd
    rw [← h1, List.map_map] at h
    exact h
  have e2 : getA (rowsOf ps) e = (getA ra e).map (·.2) := by
    rw [← h1]
    exact getA_map (fun v : Addr × List (S × Int) => v.2) ra e
  cases g : getA ra e with
  | none => exact .inl ⟨rfl, by unfold rowOf; rw [e2, g]; rfl⟩
  | some v =>
    refine .inr ⟨v.1, rfl, ?_⟩
    have := h3 _ ((getA_mem nd e v).mpr g)
    unfold rowOf
    rw [e2, g]
    exact this
theorem pairs1_len (o : Nat) (nm : S) : (pairs1 o nm).length = nm.length + 1 := by simp [pairs1]
theorem rp_el {H : Hp} {o : Nat} {nm : S} {xs : List V} {i : Nat} {x : V} (rp : Reps K H ((pairs1 o nm).map elD) xs) (hx : xs[i]? = some x) : ∃ (p : S × S) (a : Addr), (pairs1 o nm)[i]? = some p ∧ x = .ref a ∧ SqT K H a [sv p.1, sv p.2] := by
  obtain ⟨dd, hdd, rx⟩ := rp.get hx
  rw [List.getElem?_map] at hdd
  cases ep : (pairs1 o nm)[i]? with
  | none => rw [ep] at hdd; cases hdd
  | some p =>
  rw [ep] at hdd
  have hd2 : dd = elD p := (Option.some.inj hdd).symm
  subst hd2
  obtain ⟨at', xs', rfl, hsq, y1, ys1', rfl, ry1, y2, ys2', rfl, ry2, hnil⟩ := rx
  have ey1 : y1 = sv p.1 := ry1
  have ey2 : y2 = sv p.2 := ry2
  have en : ys2' = [] := hnil
  subst ey1 ey2 en
  exact ⟨p, at', rfl, rfl, hsq⟩
theorem ok_stepsR {f : Addr} {fd : FuncData} (F : Fun K "steps_by_rows" "steps_by_rows" sStepsR f fd) (cEnds : Cal P w K mg base 2 "ends_and_letters" ["name", "order"] (spEnds K)) (cPart : Cal P w K mg base 3 "part_in" ["row", "letter"] (spPart K)) :
    FnOk P w K mg base CX0 4 f fd ["rows", "order", "name"] (spStepsR K) := by
  refine F.ok scStepsR (fun vs H Q E h => ?_) (fun cdv A outer s H vs Q E hr h => ?_)
  · obtain ⟨d, ps, o, nm, rfl, _⟩ := h; rfl
  · obtain ⟨d, ps, o, nm, rfl, hR, hps, ho, hl, k⟩ := h
    have hu := hu_of hr
    have hr2 := hr.mono (j := 2) (by decide)
    refine ⟨_, pss_one (ps_ret (pe_comp (N := ["rows", "end", "letter"]) (caps := [0]) rfl (compScope_of (by kernel_rfl))
      (pi_list (pe_cal cEnds hr2 rfl (pa_cons (pv 2) (pa_cons (pv 1) pa_nil))))
      (fun cl C s H ex => pg_tupK K 2 rfl rfl (pgs_cons (pg_name (i := 1) nd3 rfl (Or.inl rfl)) (pgs_cons (pg_name (i := 2) nd3 rfl (Or.inl rfl)) pgs_nil)) rfl rfl)
      (fun cl C s H ex => pf_nil)
      (fun cl C s H ex => pe_tup (pa_cons (pv 1) (pa_cons (pv 2) (pa_cons (pe_cal cPart hr rfl (pa_cons (pe_dget2 hu (pv 0) (pv 1) pe_dnewK ⟨rfl, rfl, rfl, rfl⟩) (pa_cons (pv 2) pa_nil))) pa_nil)))))), ?_⟩
    refine ⟨_, rfl, _, rfl, nm, o, rfl, ho, hl, fun l xs Hl sml hln hll rp => ?_⟩
    refine ⟨l, rfl, ⟨_, .of hll⟩, ?_⟩
    have hxl : xs.length = nm.length + 1 := by have := rp.length; rw [← this, List.length_map, pairs1_len]
    refine comp_known0 (known_list K l xs) [some (.ref d)] 2 (by omega) (fun i acc H' => Same Hl H' ∧ acc.length = i ∧ Reps K H' (((pairs1 o nm).take i).map (stD ps)) acc)
      ⟨Same.refl _, rfl, rfl⟩ (fun i acc H' _ h => ⟨.of (h.1 _ _ hll), Nat.le_of_eq h.2.1⟩) ?_ ?_
    · rintro i x acc H' ys Nx hN hx hy ⟨sm, hal, rp'⟩
      obtain ⟨y, z, rfl⟩ := ys2 hy
      obtain ⟨p, at', ep, rfl, hsq⟩ := rp_el (Reps.same sm _ _ rp) hx
      have hj : i < (pairs1 o nm).length := (List.getElem?_eq_some_iff.mp ep).1
      refine ⟨at', [sv p.1, sv p.2], rfl, hsq, rfl, _, _, rfl, _, _, rfl, rfl, ?_⟩
      have R' : RowsAt H' d ps := (hR.same sml).same sm
      obtain ⟨kvs, hd, hv⟩ := R'.get p.1
      refine ⟨_, rfl, _, rfl, _, rfl, d, rfl, .inl ⟨_, .inl hd⟩, _, rfl, fun e0 he0 => ?_⟩
      have s3 : Same H' (upd H' e0 (.dK [])) := Same.upd1 he0
      have fin : ∀ (ra : Addr), upd H' e0 (.dK []) ra = some (.dK (rowV (rowOf ps p.1))) → ∀ v, v = V.ref ra → (∀ (ra2 : V) (H5 : Hp), Same (upd H' e0 (.dK [])) H5 → FrA K H5 ra2 (part ps p.1 p.2) → ∀ pp, H5 pp = none → Nx (acc ++ [.ref pp]) [some (.ref d), some (sv p.1), some (sv p.2)] (upd H5 pp (.tup [sv p.1, sv p.2, ra2]))) := by
        intro ra hra v hv' ra2 H5 s5 fr pp hpp
        refine hN _ _ [some (sv p.1), some (sv p.2)] rfl ⟨((sm.trans s3).trans s5).trans (Same.upd1 hpp), by rw [List.length_append, hal]; rfl, ?_⟩
        rw [List.take_succ_eq_append_getElem hj, (List.getElem?_eq_some_iff.mp ep).2, List.map_append]
        refine Reps.append (Reps.same ((s3.trans s5).trans (Same.upd1 hpp)) _ _ rp') (Reps.one ⟨pp, _, rfl, .of upd_same, ?_⟩)
        exact ⟨_, _, rfl, rfl, _, _, rfl, rfl, _, _, rfl, (fr.same (Same.upd1 hpp)).rep, rfl⟩
      have hd3 : upd H' e0 (.dK []) d = some (.dK kvs) := s3 _ _ hd
      refine ⟨_, DGet.k (k := Sum.inr (tx p.1)) hd3, _, rfl, ?_⟩
      rcases hv with ⟨hv1, hv2⟩ | ⟨ra, hv1, hv2⟩
      · rw [hv1]
        have hra : upd H' e0 (.dK []) e0 = some (.dK (rowV (rowOf ps p.1))) := by rw [upd_same, hv2]; rfl
        exact ⟨e0, ps, p.1, p.2, rfl, hra, hps, fun v H5 s5 fr => ⟨by show 3 ≤ sizeLine; decide, fun pp hpp => fin e0 hra _ rfl v H5 s5 fr pp hpp⟩⟩
      · rw [hv1]
        have hra : upd H' e0 (.dK []) ra = some (.dK (rowV (rowOf ps p.1))) := s3 _ _ hv2
        exact ⟨ra, ps, p.1, p.2, rfl, hra, hps, fun v H5 s5 fr => ⟨by show 3 ≤ sizeLine; decide, fun pp hpp => fin ra hra _ rfl v H5 s5 fr pp hpp⟩⟩
    · rintro acc H' ⟨sm, hal, rp'⟩ D hD
      have sml2 := sml.trans sm
      refine k D acc _ (sml2.upd_new (sml2.free hD)) (sml2.free hD) upd_same (Reps.same (Same.upd1 hD) _ _ ?_)
      have e1 : (pairs1 o nm).take xs.length = pairs1 o nm := by rw [hxl, ← pairs1_len o nm, List.take_length]
      rw [e1] at rp'
      exact rp'
end
end Kn
end
section
set_option Elab.async false
set_option linter.all false
set_option maxRecDepth 100000
set_option maxHeartbeats 1000000
namespace Kn
open PySem L2
theorem shareG_dn {ps : List (S × S)} (h1 : 1 ≤ ps.length) (qs : List (S × S)) : (shareG ps qs).2 ≤ ((ps.length ^ qs.length : Nat) : Int) := by
  have := foldG_dn h1 qs (1, 1) 0 fq11 (by simp)
  rw [Nat.zero_add] at this
  rw [Int.natCast_pow]
  exact this
theorem shareG_fq (ps qs : List (S × S)) : Fq (shareG ps qs) := foldG_fq ps qs _ fq11
theorem shareG_le1 (ps qs : List (S × S)) : (shareG ps qs).1 ≤ (shareG ps qs).2 := foldG_le1 ps qs _ fq11 (by decide)
theorem shareG_snoc (ps qs : List (S × S)) (p : S × S) : shareG ps (qs ++ [p]) = tms (shareG ps qs) (part ps p.1 p.2) := by
  unfold shareG; rw [List.foldl_append]; rfl
theorem Sm.of_le {q : Int × Int} (h : Fq q) (h1 : q.1 ≤ q.2) (h2 : q.2 < 1073741824) : Sm q := ⟨h, by omega, h2⟩
theorem share_sm {ps : List (S × S)} {o : Nat} {nm : S} (h1 : 1 ≤ ps.length) (h : ps.length ^ (nm.length + 1) < 1073741824) : Sm (shareOf ps o nm) := by
  refine .of_le (share_fq ..) (share_le1 ..) ?_
  have := shareG_dn h1 (pairs1 o nm)
  rw [pairs1_len] at this
  unfold shareOf
  omega
section
variable {P : Program} {w : World} {K : PySem.W.Frag} {mg : Str → Option Value} {base : Heap}
theorem rp_st {H : Hp} {ps : List (S × S)} {qs : List (S × S)} {xs : List V} {i : Nat} {x : V} (rp : Reps K H (qs.map (stD ps)) xs) (hx : xs[i]? = some x) : ∃ (p : S × S) (a : Addr) (v : V), qs[i]? = some p ∧ x = .ref a ∧ SqT K H a [sv p.1, sv p.2, v] ∧ FrA K H v (part ps p.1 p.2) := by
  obtain ⟨dd, hdd, rx⟩ := rp.get hx
  rw [List.getElem?_map] at hdd
  cases ep : qs[i]? with
  | none => rw [ep] at hdd; cases hdd
  | some p =>
  rw [ep] at hdd
  have hd2 : dd = stD ps p := (Option.some.inj hdd).symm
  subst hd2
  obtain ⟨at', xs', rfl, hsq, y1, ys1', rfl, ry1, y2, ys2', rfl, ry2, y3, ys3', rfl, ry3, hnil⟩ := rx
  have ey1 : y1 = sv p.1 := ry1
  have ey2 : y2 = sv p.2 := ry2
  have en : ys3' = [] := hnil
  subst ey1 ey2 en
  exact ⟨p, at', y3, rfl, rfl, hsq, FrA.of_rep ry3⟩
def spShareR (K : PySem.W.Frag) : Sp := fun vs H Q _ => ∃ (d : Addr) (ps : List (S × S)) (o : Nat) (nm : S), vs = [.ref d, .int o, sv nm] ∧ RowsAt H d ps ∧ 1 ≤ ps.length ∧ ps.length < 1000 ∧ ps.length ^ (nm.length + 1) < 1073741824 ∧ 1 ≤ o ∧ nm.length ≤ 64 ∧
  ∀ v H', Same H H' → FrA K H' v (shareOf ps o nm) → Q v H'
abbrev sShareR : Stmt := top 30
theorem scShareR : FnScope ["rows", "order", "name", "product", "step"] ["rows", "order", "name"] (defScope sShareR) := ⟨rfl, rfl, rfl, by decide +kernel, rfl, by decide +kernel, by decide +kernel⟩
theorem ok_shareR {f : Addr} {fd : FuncData} (F : Fun K "share_by_rows" "share_by_rows" sShareR f fd) (C : Cst2 K mg) (cSt : Cal P w K mg base 4 "steps_by_rows" ["rows", "order", "name"] (spStepsR K)) (cT : Cal P w K mg base 3 "times" ["one", "other"] (spTimes K)) :
    FnOk P w K mg base CX0 5 f fd ["rows", "order", "name"] (spShareR K) := by
  obtain ⟨aW, hW, tW⟩ := C.whole
  refine F.ok scShareR (fun vs H Q E h => ?_) (fun cdv A outer s H vs Q E hr h => ?_)
  · obtain ⟨d, ps, o, nm, rfl, _⟩ := h; rfl
  · obtain ⟨d, ps, o, nm, rfl, hR, hp1, hps, hpow, ho, hl, k⟩ := h
    have hu := hu_of hr
    have hr3 := hr.mono (j := 3) (by decide)
    have nd := scShareR.nd
    refine ⟨_, pss_cons (ps_set (i := 3) nd rfl (Or.inl rfl) (pe_glob (v := .ref aW) (by rfl) hW rfl))
      (pss_cons (ps_for PassesOwn.never rfl (pi_list (pe_cal cSt hr rfl (pa_cons (pv 0) (pa_cons (pv 1) (pa_cons (pv 2) pa_nil))))) (pg_name (i := 4) nd rfl (Or.inl rfl))
        (pss_one (ps_set (i := 3) nd rfl (Or.inl rfl) (pe_cal cT hr3 rfl (pa_cons (pv 3) (pa_cons (pe_ix ix_tup (pv 4) pe_int (fun _ _ => rfl)) pa_nil))))))
      (pss_one (ps_ret (pv 3)))), ?_⟩
    refine ⟨_, rfl, _, rfl, _, rfl, d, ps, o, nm, rfl, hR, hps, ho, hl, fun l xs Hl sml hln hll rp => ?_⟩
    refine ⟨l, rfl, ⟨_, .of hll⟩, ?_⟩
    have hxl : xs.length = nm.length + 1 := by have := rp.length; rw [← this, List.length_map, pairs1_len]
    refine for_known (known_list K l xs) (fun i σ H2 => ∃ (v : V) (y : Option V), σ = [some (.ref d), some (.int o), some (sv nm), some v, y] ∧ Same Hl H2 ∧ FrA K H2 v (shareG ps ((pairs1 o nm).take i)))
      ⟨_, _, rfl, Same.refl _, ⟨aW, rfl, tW _⟩⟩ (fun i σ H' _ h => by obtain ⟨_, _, _, h, _⟩ := h; exact .of (h _ _ hll)) ?_ ?_
    · rintro i x σ H2 Nx hN hx ⟨v, y, rfl, sm, fr⟩
      obtain ⟨p, at', u, ep, rfl, hsq, fu⟩ := rp_st (Reps.same sm _ _ rp) hx
      have hj : i < (pairs1 o nm).length := (List.getElem?_eq_some_iff.mp ep).1
      have hj2 : i < nm.length + 1 := by rw [pairs1_len] at hj; exact hj
      have hti : ((pairs1 o nm).take i).length = i := by rw [List.length_take]; omega
      have hdn := shareG_dn hp1 ((pairs1 o nm).take i)
      rw [hti] at hdn
      have hpi : ps.length ^ i ≤ ps.length ^ (nm.length + 1) := Nat.pow_le_pow_right hp1 (by omega)
      have hpi1 : ps.length ^ (i + 1) ≤ ps.length ^ (nm.length + 1) := Nat.pow_le_pow_right hp1 (by omega)
      have hpd := part_dn p.1 p.2 hp1
      have s1 : Sm (shareG ps ((pairs1 o nm).take i)) := .of_le (shareG_fq ..) (shareG_le1 ..) (by omega)
      have s2 : Sm (part ps p.1 p.2) := .of_le (part_fq ..) (part_le1 ..) (by omega)
      refine ⟨_, rfl, _, rfl, at', _, 2, u, rfl, rfl, hsq, rfl, v, u, _, _, rfl, fr, fu, s1, s2, ?_, fun b hb => hN _ _ ⟨_, _, rfl, sm.trans (Same.upd1 hb), ?_⟩⟩
      · have hm : (shareG ps ((pairs1 o nm).take i)).2 * (part ps p.1 p.2).2 ≤ ((ps.length ^ i : Nat) : Int) * (ps.length : Int) := Int.mul_le_mul hdn hpd (Int.le_of_lt s2.dn) (Int.natCast_nonneg _)
        have e : ((ps.length ^ i : Nat) : Int) * (ps.length : Int) = ((ps.length ^ (i + 1) : Nat) : Int) := by rw [Nat.pow_succ]; rfl
        rw [e] at hm
        omega
      · rw [List.take_succ_eq_append_getElem hj, (List.getElem?_eq_some_iff.mp ep).2, shareG_snoc]
        exact FrA.new
    · rintro σ H2 ⟨v, y, rfl, sm, fr⟩
      refine ⟨_, rfl, k v H2 (sml.trans sm) ?_⟩
      have e1 : (pairs1 o nm).take xs.length = pairs1 o nm := by rw [hxl, ← pairs1_len o nm, List.take_length]
      rw [e1] at fr
      exact fr
structure Bk (bk : List S) (o : Nat) : Prop extends isBk bk where
  o1 : 1 ≤ o
  o3 : o ≤ 3
structure Fit (bk : List S) (o : Nat) (x : S) : Prop extends Bk bk o where
  nmn : isNm x
  pw : (pairsB o bk).length ^ (x.length + 1) < 1073741824
theorem Bk.l8 {bk : List S} {o : Nat} (h : Bk bk o) : ∀ x ∈ bk, x.length ≤ 8 := fun x hx => (h.nm x hx).2.1
theorem pairs_len {bk : List S} {o : Nat} (h : Bk bk o) : 1 ≤ (pairsB o bk).length ∧ (pairsB o bk).length < 1000 := by
  have e := pairsB_length o bk
  have go : ∀ l : List S, (∀ x ∈ l, x.length ≤ 8) → (l.length : Int) ≤ (l.map fun x => (x.length : Int) + 1).sum ∧ (l.map fun x => (x.length : Int) + 1).sum ≤ 9 * (l.length : Int) := by
    intro l
    induction l with
    | nil => intro _; simp
    | cons x r ih =>
      intro hl
      have h1 := hl x (List.mem_cons_self ..)
      have h2 := ih fun y hy => hl y (List.mem_cons_of_mem _ hy)
      rw [List.map_cons, List.sum_cons, List.length_cons]
      have : ((r.length + 1 : Nat) : Int) = (r.length : Int) + 1 := rfl
      omega
  have := go bk h.l8
  have h1 := h.lo
  have h2 := h.hi
  omega
def spSteps (K : PySem.W.Frag) : Sp := fun vs H Q _ => ∃ (a : Addr) (bk : List S) (o : Nat) (nm : S), vs = [.ref a, .int o, sv nm] ∧ H a = some (.tup (bkV bk)) ∧ Bk bk o ∧ isNm nm ∧
  ∀ l xs H', Same H H' → H l = none → H' l = some (.lst xs) → Reps K H' ((pairs1 o nm).map (stD (pairsB o bk))) xs → Q (.ref l) H'
abbrev sShare : Stmt := top 31
abbrev sMakes : Stmt := top 32
theorem scShare : FnScope ["book", "order", "name"] ["book", "order", "name"] (defScope sShare) := ⟨rfl, rfl, rfl, by decide +kernel, rfl, by decide +kernel, by decide +kernel⟩
theorem scMakes : FnScope ["book", "order", "name"] ["book", "order", "name"] (defScope sMakes) := ⟨rfl, rfl, rfl, by decide +kernel, rfl, by decide +kernel, by decide +kernel⟩
structure Needs (P : Program) (w : World) (K : PySem.W.Frag) (mg : Str → Option Value) (base : Heap) : Prop where
  bk : Cal P w K mg base 3 "need_book" ["thing"] spNeedBook
  od : Cal P w K mg base 3 "need_order" ["thing"] spNeedOrder
  nm : Cal P w K mg base 2 "need_name" ["thing"] spNeedName
  rows : Cal P w K mg base 3 "counted_rows" ["book", "order"] spRows
def spShare (K : PySem.W.Frag) : Sp := fun vs H Q _ => ∃ (a : Addr) (bk : List S) (o : Nat) (nm : S), vs = [.ref a, .int o, sv nm] ∧ H a = some (.tup (bkV bk)) ∧ Fit bk o nm ∧
  ∀ v H', Same H H' → FrA K H' v (shareOf (pairsB o bk) o nm) → Q v H'
theorem ok_share {f : Addr} {fd : FuncData} (F : Fun K "share" "share" sShare f fd) (N : Needs P w K mg base) (cSh : Cal P w K mg base 5 "share_by_rows" ["rows", "order", "name"] (spShareR K)) :
    FnOk P w K mg base CX0 6 f fd ["book", "order", "name"] (spShare K) := by
  refine F.ok scShare (fun vs H Q E h => ?_) (fun cdv A outer s H vs Q E hr h => ?_)
  · obtain ⟨d, ps, o, nm, rfl, _⟩ := h; rfl
  · obtain ⟨a, bk, o, nm, rfl, ha, hb, k⟩ := h
    have hr3 := hr.mono (j := 3) (by decide)
    have hr2 := hr.mono (j := 2) (by decide)
    refine ⟨_, pss_cons (ps_expr (pe_cal N.bk hr3 rfl (pa_cons (pv 0) pa_nil))) (pss_cons (ps_expr (pe_cal N.od hr3 rfl (pa_cons (pv 1) pa_nil))) (pss_cons (ps_expr (pe_cal N.nm hr2 rfl (pa_cons (pv 2) pa_nil)))
      (pss_one (ps_ret (pe_cal cSh hr rfl (pa_cons (pe_cal N.rows hr3 rfl (pa_cons (pv 0) (pa_cons (pv 1) pa_nil))) (pa_cons (pv 1) (pa_cons (pv 2) pa_nil)))))))), ?_⟩
    refine ⟨_, rfl, a, bk, rfl, ha, hb.toisBk, fun H1 s1 => ?_⟩
    refine ⟨_, rfl, o, rfl, hb.o1, hb.o3, ?_⟩
    refine ⟨_, rfl, nm, rfl, hb.nmn, fun H2 s2 => ?_⟩
    have s12 := s1.trans s2
    have pl := pairs_len hb.toBk
    refine ⟨_, rfl, _, rfl, a, bk, o, rfl, s12 _ _ ha, hb.hi, hb.toBk.l8, hb.o1, fun d H3 s3 hd R => ?_⟩
    exact ⟨_, rfl, _, rfl, d, _, o, nm, rfl, R, pl.1, pl.2, hb.pw, hb.o1, (by have := hb.nmn.2.1; omega), fun v H4 s4 fr => k v H4 ((s12.trans s3).trans s4) fr⟩
def spMakes : Sp := fun vs H Q _ => ∃ (a : Addr) (bk : List S) (o : Nat) (nm : S), vs = [.ref a, .int o, sv nm] ∧ H a = some (.tup (bkV bk)) ∧ Fit bk o nm ∧
  ∀ H', Same H H' → Q (.bl (decide (0 < (shareOf (pairsB o bk) o nm).1))) H'
theorem ok_makes {f : Addr} {fd : FuncData} (F : Fun K "makes" "makes" sMakes f fd) (C : Cst2 K mg) (cSh : Cal P w K mg base 6 "share" ["book", "order", "name"] (spShare K)) (cL : Cal P w K mg base 1 "is_less" ["one", "other"] (spLess K)) :
    FnOk P w K mg base CX0 7 f fd ["book", "order", "name"] spMakes := by
  obtain ⟨aN, hN, tN⟩ := C.nought
  refine F.ok scMakes (fun vs H Q E h => ?_) (fun cdv A outer s H vs Q E hr h => ?_)
  · obtain ⟨d, ps, o, nm, rfl, _⟩ := h; rfl
  · obtain ⟨a, bk, o, nm, rfl, ha, hb, k⟩ := h
    have hr1 := hr.mono (j := 1) (by decide)
    refine ⟨_, pss_one (ps_ret (pe_cal cL hr1 rfl (pa_cons (pe_glob (v := .ref aN) (by rfl) hN rfl) (pa_cons (pe_cal cSh hr rfl (pa_cons (pv 0) (pa_cons (pv 1) (pa_cons (pv 2) pa_nil)))) pa_nil)))), ?_⟩
    refine ⟨_, rfl, _, rfl, _, rfl, a, bk, o, nm, rfl, ha, hb, fun v H1 s1 fr => ?_⟩
    refine ⟨_, v, (0, 1), _, rfl, ⟨aN, rfl, tN _⟩, fr, ⟨fq01, by decide, by decide⟩, share_sm (pairs_len hb.toBk).1 hb.pw, ?_⟩
    rw [lss_zero]
    exact k H1 s1
end
end Kn
end
section
set_option Elab.async false
set_option linter.all false
set_option maxRecDepth 100000
set_option maxHeartbeats 1000000
namespace Kn
open PySem L2
section
variable {P : Program} {w : World} {K : PySem.W.Frag} {mg : Str → Option Value} {base : Heap}
def spLik : Sp := fun vs H Q _ => ∃ (a : Addr) (bk : List S) (o : Nat) (x y : S), vs = [.ref a, .int o, sv x, sv y] ∧ H a = some (.tup (bkV bk)) ∧ Fit bk o x ∧ Fit bk o y ∧
  ∀ H', Same H H' → Q (sv (lkl (shareOf (pairsB o bk) o x) (shareOf (pairsB o bk) o y) x y)) H'
end
end Kn
end
section
set_option Elab.async false
set_option linter.all false
set_option maxRecDepth 100000
set_option maxHeartbeats 1000000
namespace Kn
open PySem L2
def intOf : V → Int
  | .int i => i
  | _ => 0
def cellD (q : S × Int) : PyData := .tuple [.str (tx q.1), .int q.2]
def tbD (r : S × List (S × Int)) : PyData := .tuple [.str (tx r.1), .tuple (r.2.map cellD)]
section
variable {P : Program} {w : World} {K : PySem.W.Frag} {mg : Str → Option Value} {base : Heap}
end
end Kn
end
section
set_option Elab.async false
set_option linter.all false
set_option maxRecDepth 100000
set_option maxHeartbeats 1000000
namespace Kn
open PySem L2
section
variable {P : Program} {w : World} {K : PySem.W.Frag} {mg : Str → Option Value} {base : Heap}
theorem reps_ints {H : Hp} : ∀ ns : List Int, Reps K H (ns.map PyData.int) (ns.map V.int)
  | [] => rfl
  | n :: ns => ⟨_, _, rfl, rfl, reps_ints ns⟩
theorem lay_ints : ∀ ns : List Int, PyData.canLayAll0 (ns.map PyData.int) = true
  | [] => rfl
  | n :: ns => by rw [List.map_cons]; simp only [PyData.canLayAll0, PyData.canLay0, lay_ints ns, Bool.and_self]
def spCell (K : PySem.W.Frag) : Sp := fun vs H Q _ => ∃ (a : Addr) (ns : List Int) (k : Nat), vs = [.ref a, .int k] ∧ SqL K H a (ns.map V.int) ∧ ns.length ≤ 63 ∧ ∀ (i : Int) H', Same H H' → Q (.int i) H'
abbrev sCell : Stmt := top 43
theorem scCell : FnScope ["_law_script", "_law_k"] ["_law_script", "_law_k"] (defScope sCell) := ⟨rfl, rfl, rfl, by decide +kernel, rfl, by decide +kernel, by decide +kernel⟩
theorem shaped_ints (ns : List Int) : SeqAt.shaped (.list (ns.map PyData.int)) = true := by
  unfold SeqAt.shaped
  have h1 : (PyData.list (ns.map PyData.int)).canLay0 = true := by simp only [PyData.canLay0]; exact lay_ints ns
  have h2 : (PyData.list (ns.map PyData.int)).depth ≤ 64 := by
    have go : ∀ ns : List Int, PyData.depthAll (ns.map PyData.int) ≤ 1 := by
      intro ns
      induction ns with
      | nil => decide
      | cons n ns ih => rw [List.map_cons]; simp only [PyData.depthAll, PyData.depth]; omega
    have := go ns
    simp only [PyData.depth]; omega
  rw [h1, decide_eq_true h2]; rfl
theorem ok_cell {f : Addr} {fd : FuncData} (F : Fun K "_law_cell" "_law_cell" sCell f fd) (B : Blt mg) : FnOk P w K mg base CX0 1 f fd ["_law_script", "_law_k"] (spCell K) := by
  refine F.ok scCell (fun vs H Q E h => ?_) (fun cdv A outer s H vs Q E hr h => ?_)
  · obtain ⟨a, ns, k, rfl, _⟩ := h; rfl
  · obtain ⟨a, ns, n, rfl, ha, hl, k⟩ := h
    have hu := hr.units
    refine ⟨_, pss_cons (ps_if (pt_cmpR (op_eqD hu) (pv 0) (pe_lst pa_nil) (nomark _)) (pss_one (ps_ret (pe_op op_mul pe_int (pv 1)))) pss_nil)
      (pss_one (ps_ret (pe_op op_add (pe_ix ix_list (pv 0) (pe_op op_mod (pv 1) (pe_callB call_len_seq (by rfl) B.len PySem.boot_len (pa_cons (pv 0) pa_nil))) (fun _ _ => rfl))
        (pe_op op_mul pe_int (pe_op op_fdiv (pv 1) (pe_callB call_len_seq (by rfl) B.len PySem.boot_len (pa_cons (pv 0) pa_nil))))))), ?_⟩
    refine ⟨_, rfl, by show 0 ≤ sizeLine; decide, fun p hp => ?_⟩
    have s1 : Same H (upd H p (.lst [])) := Same.upd1 hp
    refine ⟨.list (ns.map PyData.int), .list [], ⟨a, _, rfl, s1.seq ha, reps_ints ns⟩, ⟨p, [], rfl, .of upd_same, rfl⟩, shaped_ints ns, rfl, _, rfl, ?_⟩
    cases ns with
    | nil => exact iteT ⟨_, rfl, 7, n, rfl, rfl, .inl ⟨by decide, by decide⟩, k _ _ s1⟩
    | cons m ns =>
      refine iteF ?_
      have hlen : ((m :: ns).map V.int).length = ns.length + 1 := by simp
      have hll : ns.length + 1 ≤ 63 := by simpa using hl
      have hm : ((n : Int) % (((m :: ns).map V.int).length : Int)) = ((n % (ns.length + 1) : Nat) : Int) := by rw [hlen]; rfl
      have hlt : n % (ns.length + 1) < ((m :: ns).map V.int).length := by rw [hlen]; exact Nat.mod_lt _ (Nat.succ_pos _)
      refine ⟨_, rfl, _, rfl, _, rfl, a, _, rfl, .inl (s1.seq ha), _, _, rfl, rfl, by rw [hlen]; omega, ?_⟩
      refine ⟨a, _, _, .int ((m :: ns)[n % (ns.length + 1)]'(by simpa using hlt)), rfl, rfl, s1.seq ha, ?_, ?_⟩
      · rw [hm]
        refine atI_nat ?_
        rw [List.getElem?_map, List.getElem?_eq_getElem (by simpa using hlt)]; rfl
      · exact ⟨_, rfl, _, rfl, a, _, rfl, .inl (s1.seq ha), _, _, rfl, rfl, ⟨by rw [hlen]; omega, by rw [hlen]; omega⟩, _, _, rfl, rfl, .inl ⟨by decide, by decide⟩, _, _, rfl, rfl, k _ _ s1⟩
theorem lt0 {d : Int} (h : 0 < d) : 0 < d := h
theorem cmE {t d q : Int} (h : 0 < d) (h2 : d < 18446744073709551616) : CMul (t % d) q := by
  have h1 := Int.emod_nonneg t (show d ≠ 0 by omega)
  have h3 := Int.emod_lt_of_pos t h
  exact .inl ⟨by omega, by omega⟩
def spDrawn (K : PySem.W.Frag) : Sp := fun vs H Q _ => ∃ (a : Addr) (ns : List Int) (k m : Nat), vs = [.ref a, .int k, .int m] ∧ SqL K H a (ns.map V.int) ∧ ns.length ≤ 63 ∧ 1 ≤ m ∧ m < 1000 ∧ ∀ (i : Nat) H', i < m → Same H H' → Q (.int i) H'
abbrev sDrawn : Stmt := top 44
theorem scDrawn : FnScope ["_law_script", "_law_k", "_law_many", "_law_cell_here"] ["_law_script", "_law_k", "_law_many"] (defScope sDrawn) := ⟨rfl, rfl, rfl, by decide +kernel, rfl, by decide +kernel, by decide +kernel⟩
theorem ok_drawn {f : Addr} {fd : FuncData} (F : Fun K "_law_drawn" "_law_drawn" sDrawn f fd) (c1 : Cal P w K mg base 1 "_law_cell" ["_law_script", "_law_k"] (spCell K)) : FnOk P w K mg base CX0 2 f fd ["_law_script", "_law_k", "_law_many"] (spDrawn K) := by
  refine F.ok scDrawn (fun vs H Q E h => ?_) (fun cdv A outer s H vs Q E hr h => ?_)
  · obtain ⟨a, ns, k, m, rfl, _⟩ := h; rfl
  · obtain ⟨a, ns, n, m, rfl, ha, hl, hm1, hm2, k⟩ := h
    have nd := scDrawn.nd
    refine ⟨_, pss_cons (ps_set (i := 3) nd rfl (Or.inl rfl) (pe_op op_mod (pe_op op_add (pe_op op_mul (pe_op op_mod (pe_cal c1 hr rfl (pa_cons (pv 0) (pa_cons (pv 1) pa_nil))) pe_int) pe_int) (pe_op op_mul pe_int (pe_op op_add (pv 1) pe_int))) pe_int))
      (pss_cons (ps_set (i := 3) nd rfl (Or.inl rfl) (pe_op op_mod (pe_op op_add (pe_op op_mul (pv 3) (pv 3)) (pe_op op_fdiv (pv 3) pe_int)) pe_int))
      (pss_one (ps_ret (pe_op op_mod (pe_op op_fdiv (pe_op op_mod (pe_op op_add (pe_op op_mul (pv 3) (pv 3)) (pe_op op_fdiv (pv 3) pe_int)) pe_int) pe_int) (pv 2))))), ?_⟩
    refine ⟨_, rfl, _, rfl, a, ns, n, rfl, ha, hl, fun i H' s1 => ?_⟩
    have fin : ∀ z : Int, Q (.int (z % (m : Int))) H' := fun z => by
      have z1 : 0 ≤ z % (m : Int) := Int.emod_nonneg _ (by omega)
      have z2 : z % (m : Int) < m := Int.emod_lt_of_pos _ (by omega)
      have e : z % (m : Int) = ((z % (m : Int)).toNat : Int) := (Int.toNat_of_nonneg z1).symm
      rw [e]
      exact k _ _ (by omega) s1
    refine ⟨_, _, rfl, rfl, lt0 (by decide), _, _, rfl, rfl, .inr ⟨by decide, by decide⟩, ?_⟩
    refine ⟨_, rfl, _, _, rfl, rfl, _, _, rfl, rfl, .inl ⟨by decide, by decide⟩, _, _, rfl, rfl, _, _, rfl, rfl, lt0 (by decide), ?_⟩
    refine ⟨_, rfl, _, rfl, _, _, rfl, rfl, cmE (by decide) (by decide), _, rfl, _, _, rfl, rfl, ⟨by decide, by decide⟩, _, _, rfl, rfl, _, _, rfl, rfl, lt0 (by decide), ?_⟩
    refine ⟨_, rfl, _, rfl, _, _, rfl, rfl, cmE (by decide) (by decide), _, rfl, _, _, rfl, rfl, ⟨by decide, by decide⟩, _, _, rfl, rfl, _, _, rfl, rfl, lt0 (by decide), _, _, rfl, rfl, ⟨by decide, by decide⟩, _, rfl, _, _, rfl, rfl, ?_, fin _⟩
    show (0 : Int) < (m : Int)
    omega
end
end Kn
end
section
set_option Elab.async false
set_option linter.all false
set_option maxRecDepth 100000
set_option maxHeartbeats 1000000
namespace Kn
open PySem L2
section
variable {P : Program} {w : World} {K : PySem.W.Frag} {mg : Str → Option Value} {base : Heap}
def spName (K : PySem.W.Frag) : Sp := fun vs H Q _ => ∃ (a : Addr) (ns : List Int) (at' most : Nat), vs = [.ref a, .int at', .int most] ∧ SqL K H a (ns.map V.int) ∧ ns.length ≤ 63 ∧ 1 ≤ most ∧ most ≤ 8 ∧
  ∀ (x : S) H', Same H H' → isNm x → x.length ≤ most → Q (sv x) H'
abbrev sName : Stmt := top 45
theorem scName : FnScope ["_law_script", "_law_at", "_law_most", "_law_size", "_law_letters"] ["_law_script", "_law_at", "_law_most"] (defScope sName) := ⟨rfl, rfl, rfl, by decide +kernel, rfl, by decide +kernel, by decide +kernel⟩
theorem ndN : (["_law_letters", "_law_script", "_law_at", "_law_k"] : List Str).Nodup := by decide +kernel
abbrev cDr (P : Program) (w : World) (K : PySem.W.Frag) (mg : Str → Option Value) (base : Heap) : Prop := Cal P w K mg base 2 "_law_drawn" ["_law_script", "_law_k", "_law_many"] (spDrawn K)
theorem ok_name {f : Addr} {fd : FuncData} (F : Fun K "_law_name" "_law_name" sName f fd) (B : Blt mg) (c1 : cDr P w K mg base) : FnOk P w K mg base CX0 3 f fd ["_law_script", "_law_at", "_law_most"] (spName K) := by
  refine F.ok scName (fun vs H Q E h => ?_) (fun cdv A outer s H vs Q E hr h => ?_)
  · obtain ⟨a, ns, k, m, rfl, _⟩ := h; rfl
  · obtain ⟨a, ns, n, m, rfl, ha, hl, hm1, hm2, k⟩ := h
    have nd := scName.nd
    refine ⟨_, pss_cons (ps_set (i := 3) nd rfl (Or.inl rfl) (pe_op op_add pe_int (pe_cal c1 hr rfl (pa_cons (pv 0) (pa_cons (pv 1) (pa_cons (pv 2) pa_nil))))))
      (pss_cons (ps_set (i := 4) nd rfl (Or.inr rfl) (pe_ix ix_list (pe_lst (pa_cons pe_str (pa_cons pe_str (pa_cons pe_str pa_nil)))) (pe_cal c1 hr rfl (pa_cons (pv 0) (pa_cons (pe_op op_add (pv 1) pe_int) (pa_cons pe_int pa_nil)))) (fun _ _ => rfl)))
      (pss_one (ps_ret (pe_bm PySem.F.plainAttrs_str PySem.F.slot_str_join PySem.F.type_str_join mt_join pe_str (pa_cons
        (pe_comp (N := ["_law_letters", "_law_script", "_law_at", "_law_k"]) (caps := [4, 0, 1]) rfl (compScope_of (by kernel_rfl)) (pi_range1 rfl B.range (pa_cons (pv 3) pa_nil))
          (fun cl C s H ex => pg_name (i := 3) ndN rfl (Or.inl rfl)) (fun cl C s H ex => pf_nil)
          (fun cl C s H ex => pe_ix ix_str (pv 0) (pe_cal c1 hr rfl (pa_cons (pv 1) (pa_cons (pe_op op_add (pe_op op_add (pv 2) pe_int) (pv 3)) (pa_cons (pe_callB call_len_str (by rfl) B.len PySem.boot_len (pa_cons (pv 0) pa_nil)) pa_nil)))) (fun _ _ => rfl))) pa_nil))))), ?_⟩
    refine ⟨_, rfl, _, rfl, _, rfl, a, ns, n, m, rfl, ha, hl, hm1, by omega, fun sz H1 hsz s1 => ?_⟩
    refine ⟨_, _, rfl, rfl, ?_⟩
    refine ⟨by show 3 ≤ sizeLine; decide, fun p hp => ?_⟩
    have s2 : Same H1 (upd H1 p (.lst [.str "ab", .str "ab", .str "abz"])) := Same.upd1 hp
    refine ⟨_, rfl, _, rfl, _, _, rfl, rfl, a, ns, n + 9, 3, rfl, s2.seq (s1.seq ha), hl, by decide, by decide, fun li H3 hli s3 => ?_⟩
    have s123 := (s1.trans s2).trans s3
    obtain ⟨L, hL, e⟩ : ∃ L : S, (L = [97, 98] ∨ L = [97, 98, 122]) ∧ ([.str "ab", .str "ab", .str "abz"] : List V)[li]? = some (sv L) := by
      match li, hli with
      | 0, _ => exact ⟨[97, 98], .inl rfl, rfl⟩
      | 1, _ => exact ⟨[97, 98], .inl rfl, rfl⟩
      | 2, _ => exact ⟨[97, 98, 122], .inr rfl, rfl⟩
    refine ⟨p, _, _, sv L, rfl, rfl, .of (s3 _ _ upd_same), atI_nat e, ?_⟩
    refine ⟨rfl, _, rfl, _, rfl, by omega, by omega, ?_⟩
    have hLl : L.length = 2 ∨ L.length = 3 := by rcases hL with h | h <;> subst h <;> simp
    have hLc : ∀ c ∈ L, 97 ≤ c ∧ c ≤ 122 := by rcases hL with h | h <;> subst h <;> decide
    have hnn : (1 + (sz : Int)).toNat = sz + 1 := by omega
    refine comp_known0 (known_range 0 _) [some (sv L), some (.ref a), some (.int n)] 1 (by rw [List.length_map, List.length_range, hnn]; omega) (fun i acc H' => Same H3 H' ∧ ∃ cs : S, acc = cs.map (fun c => V.str (tx [c])) ∧ cs.length = i ∧ ∀ c ∈ cs, 97 ≤ c ∧ c ≤ 122)
      ⟨Same.refl _, [], rfl, rfl, by simp⟩ (fun i acc H' _ h => ⟨trivial, by obtain ⟨_, cs, rfl, h, _⟩ := h; rw [List.length_map]; omega⟩) ?_ ?_
    · rintro i x acc H' ys Nx hN hx hy ⟨sm, cs, rfl, hcl, hcs⟩
      obtain ⟨y, rfl⟩ := ys1 hy
      rw [hnn] at hx
      obtain ⟨hi, rfl⟩ := range_item hx
      refine ⟨_, rfl, _, rfl, _, rfl, _, _, rfl, rfl, _, rfl, _, _, rfl, rfl, _, rfl, tx L, rfl, by rw [tx_len, sizeLine_eq]; omega, ?_⟩
      rw [tx_len]
      refine ⟨a, ns, n + 1 + i, L.length, rfl, (s123.trans sm).seq ha, hl, by omega, by omega, fun j H5 hj s5 => ?_⟩
      refine ⟨tx L, _, L[j], rfl, rfl, by rw [tx_len, sizeLine_eq]; omega, ?_, ?_⟩
      · rw [tx_cps]
        exact atI_nat (List.getElem?_eq_getElem hj)
      · refine hN _ _ [some (.int i)] rfl ⟨sm.trans s5, cs ++ [L[j]], by rw [List.map_append]; rfl, by rw [List.length_append, hcl]; rfl, fun c hc => ?_⟩
        rcases List.mem_append.mp hc with z | z
        · exact hcs c z
        · have : c = L[j] := by simpa using z
          rw [this]
          exact hLc _ (List.getElem_mem hj)
    · rintro acc H' ⟨sm, cs, rfl, hcl, hcs⟩ D hD
      rw [List.length_map, List.length_range, hnn] at hcl
      have esum : ((cs.map fun c => tx [c]).map (·.length)).sum = cs.length := by
        clear hcl hcs
        induction cs with
        | nil => rfl
        | cons c cs ih => rw [List.map_cons, List.map_cons, List.sum_cons, ih, List.length_cons, tx_len]; show 1 + _ = _; omega
      refine ⟨_, D, cs.map (fun c => tx [c]), rfl, rfl, .of (by rw [upd_same, List.map_map]; rfl), ?_, ?_⟩
      · rw [esum]
        show _ + _ * 0 ≤ _
        omega
      · have ej : Txt.join ⟨#[]⟩ (cs.map fun c => tx [c]) = tx cs := by
          rw [join_flat, List.map_map]
          congr 1
          clear hcl hcs esum
          congr 1
          induction cs with
          | nil => rfl
          | cons c cs ih => rw [List.map_cons, List.flatten_cons, ih]; rfl
        have kk : ∀ Hx, Same H Hx → Q (.str (Txt.join ⟨#[]⟩ (cs.map fun c => tx [c]))) Hx := fun Hx sx => by
          rw [ej]
          exact k cs Hx sx ⟨by omega, by omega, hcs⟩ (by omega)
        exact kk _ ((s123.trans sm).trans (Same.upd1 hD))
end
end Kn
end
section
set_option Elab.async false
set_option linter.all false
set_option maxRecDepth 100000
set_option maxHeartbeats 1000000
namespace Kn
open PySem L2
section
variable {P : Program} {w : World} {K : PySem.W.Frag} {mg : Str → Option Value} {base : Heap}
def spBook (K : PySem.W.Frag) : Sp := fun vs H Q _ => ∃ (a : Addr) (ns : List Int) (at' many most : Nat), vs = [.ref a, .int at', .int many, .int most] ∧ SqL K H a (ns.map V.int) ∧ ns.length ≤ 63 ∧ 1 ≤ many ∧ many ≤ 8 ∧ 1 ≤ most ∧ most ≤ 8 ∧
  ∀ (p : Addr) (bk : List S) H', Same H H' → H' p = some (.tup (bkV bk)) → 1 ≤ bk.length → bk.length ≤ many → (∀ x ∈ bk, isNm x ∧ x.length ≤ most) → Q (.ref p) H'
abbrev sBook : Stmt := top 46
theorem scBook : FnScope ["_law_script", "_law_at", "_law_many", "_law_most", "_law_found", "_law_k"] ["_law_script", "_law_at", "_law_many", "_law_most"] (defScope sBook) := ⟨rfl, rfl, rfl, by decide +kernel, rfl, by decide +kernel, by decide +kernel⟩
theorem ok_book {f : Addr} {fd : FuncData} (F : Fun K "_law_book" "_law_book" sBook f fd) (B : Blt mg) (c1 : cDr P w K mg base) (c2 : Cal P w K mg base 3 "_law_name" ["_law_script", "_law_at", "_law_most"] (spName K)) : FnOk P w K mg base CX0 4 f fd ["_law_script", "_law_at", "_law_many", "_law_most"] (spBook K) := by
  refine F.ok scBook (fun vs H Q E h => ?_) (fun cdv A outer s H vs Q E hr h => ?_)
  · obtain ⟨a, ns, k, m, l, rfl, _⟩ := h; rfl
  · obtain ⟨a, ns, n, many, most, rfl, ha, hl, hm1, hm2, hs1, hs2, k⟩ := h
    have nd := scBook.nd
    have hr2 := hr.mono (j := 2) (by decide)
    refine ⟨_, pss_cons (ps_set (i := 4) nd rfl (Or.inl rfl) (pe_tup pa_nil))
      (pss_cons (ps_for PassesOwn.never rfl (pi_range1 rfl B.range (pa_cons (pe_op op_add pe_int (pe_cal c1 hr2 rfl (pa_cons (pv 0) (pa_cons (pv 1) (pa_cons (pv 2) pa_nil))))) pa_nil)) (pg_name (i := 5) nd rfl (Or.inl rfl))
        (pss_one (ps_set (i := 4) nd rfl (Or.inl rfl) (pe_op (op_catT0.or op_catT) (pv 4) (pe_tup (pa_cons (pe_cal c2 hr rfl (pa_cons (pv 0) (pa_cons (pe_op op_add (pe_op op_add (pv 1) pe_int) (pe_op op_mul pe_int (pv 5))) (pa_cons (pv 3) pa_nil)))) pa_nil))))))
      (pss_one (ps_ret (pv 4)))), ?_⟩
    refine ⟨by show 0 ≤ sizeLine; decide, fun p0 hp0 => ?_⟩
    have s0 : Same H (upd H p0 (.tup [])) := Same.upd1 hp0
    refine ⟨_, rfl, _, rfl, _, rfl, a, ns, n, many, rfl, s0.seq ha, hl, hm1, by omega, fun sz H1 hsz s1 => ?_⟩
    refine ⟨_, _, rfl, rfl, _, rfl, by omega, by omega, ?_⟩
    have hnn : (1 + (sz : Int)).toNat = sz + 1 := by omega
    refine for_known (known_range 0 _) (fun i σ H2 => ∃ (p : Addr) (bk : List S) (y : Option V), σ = [some (.ref a), some (.int n), some (.int many), some (.int most), some (.ref p), y] ∧ Same H H2 ∧ H2 p = some (.tup (bkV bk)) ∧ bk.length = i ∧ ∀ x ∈ bk, isNm x ∧ x.length ≤ most)
      ⟨p0, [], _, rfl, s0.trans s1, s1 _ _ upd_same, rfl, by simp⟩ (fun _ _ _ _ _ => trivial) ?_ ?_
    · rintro i x σ H2 Nx hN hx ⟨p, bk, y, rfl, sm, hp, hbl, hbn⟩
      rw [hnn] at hx
      obtain ⟨hi, rfl⟩ := range_item hx
      refine ⟨_, rfl, _, rfl, _, rfl, _, _, rfl, rfl, _, rfl, _, _, rfl, rfl, .inl ⟨by decide, by decide⟩, _, _, rfl, rfl, _, rfl, a, ns, n + 1 + 10 * i, most, rfl, sm.seq ha, hl, hs1, hs2, fun x H3 s3 hx1 hx2 => ?_⟩
      refine ⟨by show 1 ≤ sizeLine; decide, fun q hq => ?_⟩
      have s4 : Same H3 (upd H3 q (.tup [sv x])) := Same.upd1 hq
      have nx : ∀ b ∈ bk ++ [x], isNm b ∧ b.length ≤ most := fun b hb => by
        rcases List.mem_append.mp hb with z | z
        · exact hbn b z
        · have : b = x := by simpa using z
          rw [this]; exact ⟨hx1, hx2⟩
      cases bk with
      | nil => exact .inl ⟨p, q, _, rfl, rfl, .of (s4 _ _ (s3 _ _ hp)), .of upd_same, hN _ _ ⟨q, [x], _, rfl, (sm.trans s3).trans s4, upd_same, by rw [← hbl]; rfl, nx⟩⟩
      | cons c cs =>
        refine .inr ⟨p, q, _, _, rfl, rfl, .of (s4 _ _ (s3 _ _ hp)), .of upd_same, by simp [bkV], ?_, fun z => by simp at z, fun _ r hr' => hN _ _ ⟨r, (c :: cs) ++ [x], _, rfl, ((sm.trans s3).trans s4).trans (Same.upd1 hr'), ?_, by rw [List.length_append, hbl]; rfl, nx⟩⟩
        · have : (bkV (c :: cs)).length = i := by rw [← hbl]; simp [bkV]
          rw [this, sizeLine_eq]
          show i + 1 ≤ _
          omega
        · rw [upd_same]
          unfold bkV
          rw [List.map_append]; rfl
    · rintro σ H2 ⟨p, bk, y, rfl, sm, hp, hbl, hbn⟩
      rw [List.length_map, List.length_range, hnn] at hbl
      exact ⟨_, rfl, k p bk H2 sm hp (by omega) (by omega) hbn⟩
end
end Kn
end
section
set_option Elab.async false
set_option linter.all false
set_option maxRecDepth 100000
set_option maxHeartbeats 1000000
namespace Kn
open PySem L2
section
variable {X : Cx} {tg : Expr}
end
theorem strOk_of {t : S} (h : ∀ c ∈ t, c ≤ 122) : PyData.strOk (tx t) = true := by
  unfold PyData.strOk
  rw [Array.all_eq_true']
  intro c hc
  have hc' : c ∈ t := by simpa [tx] using hc
  have := h c hc'
  exact decide_eq_true (by omega)
theorem shaped_list {ds : List PyData} (h : ∀ d ∈ ds, d.canLay0 = true ∧ d.depth ≤ 10) : SeqAt.shaped (.list ds) = true ∧ (PyData.list ds).canLay0 = true := by
  have h1 : PyData.canLayAll0 ds = true := by
    induction ds with
    | nil => rfl
    | cons d ds ih => simp only [PyData.canLayAll0, (h d (List.mem_cons_self ..)).1, ih fun e he => h e (List.mem_cons_of_mem _ he), Bool.and_self]
  have h2 : PyData.depthAll ds ≤ 10 := by
    clear h1
    induction ds with
    | nil => decide
    | cons d ds ih =>
      have a := (h d (List.mem_cons_self ..)).2
      have b := ih (fun e he => h e (List.mem_cons_of_mem _ he))
      simp only [PyData.depthAll]; omega
  have h3 : (PyData.list ds).canLay0 = true := by simp only [PyData.canLay0]; exact h1
  have h4 : (PyData.list ds).depth ≤ 64 := by simp only [PyData.depth]; omega
  unfold SeqAt.shaped
  rw [h3, decide_eq_true h4]; exact ⟨rfl, rfl⟩
theorem pair_chars {o : Nat} {t : S} (h : isNm t) {p : S × S} (hp : p ∈ pairs1 o t) : (∀ c ∈ p.1, 97 ≤ c ∧ c ≤ 122) ∧ ∀ c ∈ p.2, 97 ≤ c ∧ c ≤ 122 := by
  obtain ⟨i, _, rfl⟩ := List.mem_map.mp hp
  refine ⟨fun c hc => ?_, fun c hc => ?_⟩
  · exact h.2.2 c (List.mem_of_mem_take (List.mem_of_mem_drop hc))
  · exact h.2.2 c (List.mem_of_mem_drop (List.mem_of_mem_take hc))
theorem nat_sorted_eq : ∀ {l₁ l₂ : List Nat}, l₁.Pairwise (· < ·) → l₂.Pairwise (· < ·) → (∀ x, x ∈ l₁ ↔ x ∈ l₂) → l₁ = l₂
  | [], [], _, _, _ => rfl
  | [], y :: ys, _, _, h => absurd ((h y).mpr (List.mem_cons_self ..)) (by simp)
  | x :: xs, [], _, _, h => absurd ((h x).mp (List.mem_cons_self ..)) (by simp)
  | x :: xs, y :: ys, hx, hy, h => by
    have hx1 := (List.pairwise_cons.mp hx).1
    have hy1 := (List.pairwise_cons.mp hy).1
    have exy : x = y := by
      rcases List.mem_cons.mp ((h x).mp (List.mem_cons_self ..)) with e | e
      · exact e
      · rcases List.mem_cons.mp ((h y).mpr (List.mem_cons_self ..)) with e' | e'
        · exact e'.symm
        · have := hy1 x e; have := hx1 y e'; omega
    subst exy
    have : xs = ys := nat_sorted_eq (List.pairwise_cons.mp hx).2 (List.pairwise_cons.mp hy).2 fun p => by
      constructor
      · intro hp
        rcases List.mem_cons.mp ((h p).mp (List.mem_cons_of_mem _ hp)) with e | e
        · subst e; have := hx1 p hp; omega
        · exact e
      · intro hp
        rcases List.mem_cons.mp ((h p).mpr (List.mem_cons_of_mem _ hp)) with e | e
        · subst e; have := hy1 p hp; omega
        · exact e
    rw [this]
section
variable {K : PySem.W.Frag}
end
theorem IsRow.len {ps : List (S × S)} {e : S} {rs : List (S × Int)} (r : IsRow ps e rs) : rs.length ≤ ps.length := by
  have h1 := r.total
  have h2 : (ps.filter fun p => p.1 = e).length ≤ ps.length := List.length_filter_le ..
  have h3 : ∀ q ∈ rs, 0 < q.2 := fun q hq => ((r.mem q.1 q.2).mp hq).2
  have go : ∀ l : List (S × Int), (∀ q ∈ l, 0 < q.2) → (l.length : Int) ≤ (l.map (·.2)).sum := by
    intro l
    induction l with
    | nil => intro _; simp
    | cons q l ih =>
      intro hl
      have a := hl q (List.mem_cons_self ..)
      have b := ih fun x hx => hl x (List.mem_cons_of_mem _ hx)
      rw [List.map_cons, List.sum_cons, List.length_cons]
      have : ((l.length + 1 : Nat) : Int) = (l.length : Int) + 1 := rfl
      omega
  have := go rs h3
  omega
structure Blt2 (mg : Str → Option Value) : Prop where
  max : mg "max" = none
  dict : mg "dict" = none
  list : mg "list" = none
end Kn
end
section
set_option Elab.async false
set_option linter.all false
set_option maxRecDepth 100000
set_option maxHeartbeats 1000000
namespace Kn
open PySem L2
theorem eqv_strT (x y : S) : PyData.eqv (.str (tx x)) (.str (tx y)) = decide (x = y) := by
  by_cases h : x = y
  · subst h; simp [PyData.eqv]
  · have h2 : ¬ tx x = tx y := fun z => h (tx_inj z)
    rw [decide_eq_false h]
    simp [PyData.eqv, h2]
theorem eqv_el (p q : S × S) : PyData.eqv (elD p) (elD q) = decide (p = q) := by
  unfold elD
  have e1 := eqv_strT p.1 q.1
  have e2 := eqv_strT p.2 q.2
  simp only [PyData.eqv, PyData.eqvAll, Bool.and_true] at e1 e2 ⊢
  rw [e1, e2]
  obtain ⟨p1, p2⟩ := p
  obtain ⟨q1, q2⟩ := q
  by_cases h1 : p1 = q1 <;> by_cases h2 : p2 = q2 <;> simp [h1, h2]
theorem any_el (l : List (S × S)) (q : S × S) : ((l.map elD).any fun e => PyData.eqv e (elD q)) = decide (q ∈ l) := by
  rw [List.any_map]
  induction l with
  | nil => rfl
  | cons p l ih =>
    rw [List.any_cons, ih]
    show (PyData.eqv (elD p) (elD q) || _) = _
    rw [eqv_el]
    by_cases h1 : p = q
    · subst h1; simp
    · by_cases h2 : q ∈ l <;> simp [h1, h2, Ne.symm h1]
abbrev isLowT (x : S) : Prop := ∀ c ∈ x, 97 ≤ c ∧ c ≤ 122
def plW (bk : List S) (o : Nat) (q : S × S) : List Nat := (List.range bk.length).filter fun i => match bk[i]? with | some t => decide (q ∈ pairs1 o t) | none => false
def ivs (l : List Nat) : List V := l.map fun (i : Nat) => V.int (i : Int)
theorem plW_take (bk : List S) (o : Nat) (q : S × S) (i : Nat) {t : S} (e : bk[i]? = some t) : ((List.range (i + 1)).filter fun i => match bk[i]? with | some t => decide (q ∈ pairs1 o t) | none => false) = ((List.range i).filter fun i => match bk[i]? with | some t => decide (q ∈ pairs1 o t) | none => false) ++ (if q ∈ pairs1 o t then [i] else []) := by
  rw [List.range_succ, List.filter_append]
  congr 1
  by_cases h : q ∈ pairs1 o t
  · rw [if_pos h]; simp [List.filter, e, h]
  · rw [if_neg h]; simp [List.filter, e, h]
section
variable {P : Program} {w : World} {K : PySem.W.Frag} {mg : Str → Option Value} {base : Heap}
theorem el_lay {p : S × S} (h1 : ∀ c ∈ p.1, c ≤ 122) (h2 : ∀ c ∈ p.2, c ≤ 122) : (elD p).canLay0 = true ∧ (elD p).depth ≤ 10 := by
  unfold elD
  simp only [PyData.canLay0, PyData.canLayAll0, PyData.depth, PyData.depthAll, strOk_of h1, strOk_of h2, Bool.and_self, true_and]
  decide
theorem el_shaped {p : S × S} (h1 : ∀ c ∈ p.1, c ≤ 122) (h2 : ∀ c ∈ p.2, c ≤ 122) : SeqAt.shaped (elD p) = true := by
  obtain ⟨a, b⟩ := el_lay h1 h2
  unfold SeqAt.shaped
  rw [a, decide_eq_true (show (elD p).depth ≤ 64 by omega)]; rfl
def spPlW (K : PySem.W.Frag) : Sp := fun vs H Q _ => ∃ (b : Addr) (bk : List S) (o : Nat) (v : V) (q : S × S), vs = [.ref b, .int o, v] ∧ H b = some (.tup (bkV bk)) ∧ Bk bk o ∧ Rep K H (elD q) v ∧ isLowT q.1 ∧ isLowT q.2 ∧ ∀ l H', Same H H' → H' l = some (.lst (ivs (plW bk o q))) → Q (.ref l) H'
abbrev sPlW : Stmt := top 34
theorem scPlW : FnScope ["book", "order", "step"] ["book", "order", "step"] (defScope sPlW) := ⟨rfl, rfl, rfl, by decide +kernel, rfl, by decide +kernel, by decide +kernel⟩
theorem ndPW : (["order", "step", "place", "told"] : List Str).Nodup := by decide +kernel
theorem ok_plw {f : Addr} {fd : FuncData} (F : Fun K "places_with" "places_with" sPlW f fd) (hen : mg "enumerate" = none) (cE : Cal P w K mg base 2 "ends_and_letters" ["name", "order"] (spEnds K)) : FnOk P w K mg base CX0 3 f fd ["book", "order", "step"] (spPlW K) := by
  refine F.ok scPlW (fun vs H Q E h => ?_) (fun cdv A outer s H vs Q E hr h => ?_)
  · obtain ⟨b, bk, o, v, q, rfl, _⟩ := h; rfl
  · obtain ⟨b, bk, o, v, q, rfl, hb, hB, rq, q1, q2, k⟩ := h
    refine ⟨_, pss_one (ps_ret (pe_comp (N := ["order", "step", "place", "told"]) (caps := [1, 2]) rfl (compScope_of (by kernel_rfl)) (pi_enumT rfl hen (pa_cons (pv 0) pa_nil))
        (fun cl C s H ex => pg_tupK K 2 rfl rfl (pgs_cons (pg_name (i := 2) ndPW rfl (Or.inl rfl)) (pgs_cons (pg_name (i := 3) ndPW rfl (Or.inl rfl)) pgs_nil)) rfl rfl)
        (fun cl C s H ex => pf_one (pt_cmpR (op_inDK K rfl hr.units65) (pv 1) (pe_cal cE hr rfl (pa_cons (pv 3) (pa_cons (pv 0) pa_nil))) (by with_unfolding_all rfl)))
        (fun cl C s H ex => pv 2))), ?_⟩
    refine ⟨_, rfl, b, _, rfl, .of hb, ?_⟩
    have hlen : (bkV bk).length = bk.length := List.length_map ..
    have h8 := hB.hi
    refine comp_pairs (J := IteT K b) (xs := ivs (List.range bk.length)) (ys := bkV bk) (len := bk.length) (Hk := fun H' => SqT K H' b (bkV bk))
      (fun i H' hk hi => ⟨bkV bk, (bkV bk)[i]'(by rw [hlen]; exact hi), hk, List.getElem?_eq_getElem _⟩) (fun i H' hk e => ⟨bkV bk, hk, by rw [hlen, e]⟩)
      (fun i H' x H'' hk ⟨T, y, e1, e2, e3, e4⟩ => ⟨T, .int i, y, e1, e2, e3, by
        have hi : i < bk.length := by
          have := (List.getElem?_eq_some_iff.mp (e4 _ hk)).1
          rw [hlen] at this; exact this
        unfold ivs; rw [List.getElem?_map, List.getElem?_range hi]; rfl, e4 _ hk⟩)
      [some (.int o), some v] 2 (by omega) (fun i acc H' => Same H H' ∧ acc = ivs ((List.range i).filter fun i => match bk[i]? with | some t => decide (q ∈ pairs1 o t) | none => false))
      ⟨Same.refl H, rfl⟩ (fun i acc H' _ h => ⟨.of (h.1 _ _ hb), by rw [h.2]; unfold ivs; rw [List.length_map]; exact Nat.le_trans (List.length_filter_le ..) (by rw [List.length_range]; exact Nat.le_refl _)⟩) ?_ ?_
    · rintro i x y T acc H' zs Nx hN hx hy hz ⟨sm, rfl⟩ hT
      obtain ⟨z1, z2, rfl⟩ := ys2 hz
      rw [bkV, List.getElem?_map] at hy
      cases e : bk[i]? with
      | none => rw [e] at hy; cases hy
      | some t =>
      rw [e] at hy
      have hy2 : y = sv t := (Option.some.inj hy).symm
      subst hy2
      have hi : i < bk.length := (List.getElem?_eq_some_iff.mp e).1
      have hx2 : x = .int i := by
        unfold ivs at hx
        rw [List.getElem?_map, List.getElem?_range hi] at hx
        exact (Option.some.inj hx).symm
      subst hx2
      have ht := List.mem_of_getElem? e
      have t1 : Same H' (upd H' T (.tup [.int (i : Int), sv t])) := Same.upd1 hT
      have sm1 := sm.trans t1
      refine ⟨T, _, rfl, .of upd_same, rfl, _, _, rfl, _, _, rfl, rfl, ?_⟩
      generalize upd H' T (.tup [.int (i : Int), sv t]) = HA at sm1
      clear t1 hT sm H'
      have et := plW_take bk o q i e
      have l8 := hB.l8 t ht
      refine ⟨_, rfl, _, rfl, _, rfl, t, o, rfl, hB.o1, by omega, fun l xs H5 s5 hl5 h5 rp5 => ?_⟩
      have sm2 := sm1.trans s5
      refine ⟨elD q, (pairs1 o t).map elD, Rep.same sm2 _ _ rq, ⟨l, xs, rfl, .of h5, rp5⟩, el_shaped (fun c hc => (q1 c hc).2) (fun c hc => (q2 c hc).2), ?_, _, rfl, ?_⟩
      · refine (shaped_list fun d hd => ?_).1
        obtain ⟨p, hp, rfl⟩ := List.mem_map.mp hd
        have pc := pair_chars (hB.nm t ht) hp
        exact el_lay (fun c hc => (pc.1 c hc).2) fun c hc => (pc.2 c hc).2
      · rw [any_el]
        by_cases h : q ∈ pairs1 o t
        · rw [if_pos h] at et
          refine iteD h ⟨_, rfl, hN _ _ [some (.int (i : Int)), some (sv t)] rfl ⟨sm2, ?_⟩⟩
          rw [et]; unfold ivs; rw [List.map_append]; rfl
        · rw [if_neg h, List.append_nil] at et
          exact iteDF h (hN _ _ [some (.int (i : Int)), some (sv t)] rfl ⟨sm2, by rw [et]⟩)
    · rintro acc H' ⟨sm, rfl⟩ D hD
      exact k D _ (sm.upd_new (sm.free hD)) upd_same
def rowsP (bk : List S) (o : Nat) (nm : S) : List (List Nat) := (pairs1 o nm).map (plW bk o)
structure LsAt (H : Hp) (vs : List V) (ls : List (List Nat)) : Prop where
  len : vs.length = ls.length
  at_ : ∀ (i : Nat) (v : V) (l : List Nat), vs[i]? = some v → ls[i]? = some l → ∃ a, v = .ref a ∧ H a = some (.lst (ivs l))
theorem LsAt.same {H H' : Hp} {vs : List V} {ls : List (List Nat)} (h : LsAt H vs ls) (e : Same H H') : LsAt H' vs ls := ⟨h.len, fun i v l h1 h2 => let ⟨a, e1, e2⟩ := h.at_ i v l h1 h2; ⟨a, e1, e _ _ e2⟩⟩
theorem LsAt.nil {H : Hp} : LsAt H [] [] := ⟨rfl, fun i v l h => by cases h⟩
theorem LsAt.snoc {H : Hp} {vs : List V} {ls : List (List Nat)} {a : Addr} {l : List Nat} (h : LsAt H vs ls) (f : H a = some (.lst (ivs l))) : LsAt H (vs ++ [.ref a]) (ls ++ [l]) := by
  refine ⟨by rw [List.length_append, List.length_append, h.len]; rfl, fun i u r h1 h2 => ?_⟩
  by_cases hi : i < vs.length
  · rw [List.getElem?_append_left hi] at h1
    rw [List.getElem?_append_left (by rw [← h.len]; exact hi)] at h2
    exact h.at_ i u r h1 h2
  · have e1 : i = vs.length := by
      have := (List.getElem?_eq_some_iff.mp h1).1
      rw [List.length_append] at this
      have e : ([V.ref a] : List V).length = 1 := rfl
      omega
    subst e1
    rw [List.getElem?_append_right (Nat.le_refl _), Nat.sub_self] at h1
    rw [List.getElem?_append_right (by rw [h.len]; exact Nat.le_refl _), h.len, Nat.sub_self] at h2
    have h1' : V.ref a = u := Option.some.inj h1
    have h2' : l = r := Option.some.inj h2
    subst h1' h2'
    exact ⟨a, rfl, f⟩
theorem LsAt.get {H : Hp} {vs : List V} {ls : List (List Nat)} {i : Nat} {v : V} (h : LsAt H vs ls) (e : vs[i]? = some v) : ∃ a l, ls[i]? = some l ∧ v = .ref a ∧ H a = some (.lst (ivs l)) := by
  have hi : i < ls.length := by rw [← h.len]; exact (List.getElem?_eq_some_iff.mp e).1
  obtain ⟨a, e1, e2⟩ := h.at_ i v ls[i] e (List.getElem?_eq_getElem hi)
  exact ⟨a, ls[i], List.getElem?_eq_getElem hi, e1, e2⟩
def spPbs : Sp := fun vs H Q _ => ∃ (b : Addr) (bk : List S) (o : Nat) (nm : S), vs = [.ref b, .int o, sv nm] ∧ H b = some (.tup (bkV bk)) ∧ Bk bk o ∧ isNm nm ∧ ∀ l xs H', Same H H' → H' l = some (.lst xs) → LsAt H' xs (rowsP bk o nm) → Q (.ref l) H'
abbrev sPbs : Stmt := top 35
theorem scPbs : FnScope ["book", "order", "name"] ["book", "order", "name"] (defScope sPbs) := ⟨rfl, rfl, rfl, by decide +kernel, rfl, by decide +kernel, by decide +kernel⟩
theorem ndPB : (["book", "order", "step"] : List Str).Nodup := by decide +kernel
theorem ok_pbs {f : Addr} {fd : FuncData} (F : Fun K "places_by_step" "places_by_step" sPbs f fd) (cE : Cal P w K mg base 2 "ends_and_letters" ["name", "order"] (spEnds K)) (cW : Cal P w K mg base 3 "places_with" ["book", "order", "step"] (spPlW K)) : FnOk P w K mg base CX0 4 f fd ["book", "order", "name"] spPbs := by
  refine F.ok scPbs (fun vs H Q E h => ?_) (fun cdv A outer s H vs Q E hr h => ?_)
  · obtain ⟨b, bk, o, nm, rfl, _⟩ := h; rfl
  · obtain ⟨b, bk, o, nm, rfl, hb, hB, hn, k⟩ := h
    have hr2 := hr.mono (j := 2) (by decide)
    refine ⟨_, pss_one (ps_ret (pe_comp (N := ["book", "order", "step"]) (caps := [0, 1]) rfl (compScope_of (by kernel_rfl)) (pi_list (pe_cal cE hr2 rfl (pa_cons (pv 2) (pa_cons (pv 1) pa_nil))))
        (fun cl C s H ex => pg_name (i := 2) ndPB rfl (Or.inl rfl)) (fun cl C s H ex => pf_nil)
        (fun cl C s H ex => pe_cal cW hr rfl (pa_cons (pv 0) (pa_cons (pv 1) (pa_cons (pv 2) pa_nil)))))), ?_⟩
    have n8 := hn.2.1
    refine ⟨_, rfl, _, rfl, nm, o, rfl, hB.o1, by omega, fun l0 xs H1 s1 hl0 h1 rp1 => ?_⟩
    refine ⟨l0, rfl, ⟨_, .of h1⟩, ?_⟩
    have xl : xs.length = (pairs1 o nm).length := by have := rp1.length; rw [← this, List.length_map]
    have pl : (pairs1 o nm).length = nm.length + 1 := by unfold pairs1; rw [List.length_map, List.length_range]
    refine comp_known0 (known_list K l0 xs) [some (.ref b), some (.int o)] 1 (by omega) (fun i acc H' => Same H1 H' ∧ acc.length = i ∧ LsAt H' acc (((pairs1 o nm).take i).map (plW bk o)))
      ⟨Same.refl _, rfl, LsAt.nil⟩ (fun i acc H' _ h => ⟨.of (h.1 _ _ h1), Nat.le_of_eq h.2.1⟩) ?_ ?_
    · rintro i y acc H' ys Nx hN hx hy ⟨sm, hal, ls⟩
      obtain ⟨y', rfl⟩ := ys1 hy
      obtain ⟨dd, hdd, rx⟩ := rp1.get hx
      rw [List.getElem?_map] at hdd
      cases e : (pairs1 o nm)[i]? with
      | none => rw [e] at hdd; cases hdd
      | some q =>
      rw [e] at hdd
      have hd2 : dd = elD q := (Option.some.inj hdd).symm
      subst hd2
      have hi : i < (pairs1 o nm).length := (List.getElem?_eq_some_iff.mp e).1
      have pc := pair_chars hn (List.mem_of_getElem? e)
      refine ⟨_, rfl, _, rfl, _, rfl, b, bk, o, y, q, rfl, sm _ _ (s1 _ _ hb), hB, Rep.same sm _ _ rx, pc.1, pc.2, fun l H5 s5 h5 => hN _ _ [some y] rfl ⟨sm.trans s5, by rw [List.length_append, hal]; rfl, ?_⟩⟩
      rw [List.take_succ_eq_append_getElem hi, (List.getElem?_eq_some_iff.mp e).2, List.map_append]
      exact (ls.same s5).snoc h5
    · rintro acc H' ⟨sm, hal, ls⟩ D hD
      rw [xl, List.take_length] at ls
      have u1 : Same H' (upd H' D (.lst acc)) := Same.upd1 hD
      exact k D acc _ ((s1.trans sm).trans u1) upd_same (ls.same u1)
def anyHas (hv pl : List Nat) : Bool := pl.any fun p => decide (p ∈ hv)
def aloneM (rows : List (List Nat)) (pl : List Nat) : Bool := rows.all fun hv => anyHas hv pl
theorem in_ivs (p : Nat) (l : List Nat) : inV (.int (p : Int)) (ivs l) = decide (p ∈ l) := by
  unfold inV ivs
  rw [List.any_map]
  induction l with
  | nil => rfl
  | cons x l ih =>
    rw [List.any_cons, ih]
    show (eqV (V.int (x : Int)) (V.int (p : Int)) || _) = _
    by_cases h1 : x = p
    · subst h1; simp [eqV]
    · have h1' : ¬ (x : Int) = (p : Int) := by omega
      by_cases h2 : p ∈ l <;> simp [eqV, h1', h2, Ne.symm h1]
theorem flat_ivs (l : List Nat) : (ivs l).all flatV = true := by unfold ivs; rw [List.all_map, List.all_eq_true]; intro n _; rfl
theorem ivs_len (l : List Nat) : (ivs l).length = l.length := List.length_map ..
theorem ivs_get {l : List Nat} {i : Nat} {x : V} (h : (ivs l)[i]? = some x) : ∃ n, l[i]? = some n ∧ x = .int (n : Int) := by
  unfold ivs at h
  rw [List.getElem?_map] at h
  cases e : l[i]? with
  | none => rw [e] at h; cases h
  | some n => rw [e] at h; exact ⟨n, rfl, (Option.some.inj h).symm⟩
def spAnyHas : Sp := fun vs H Q _ => ∃ (a b : Addr) (hv pl : List Nat), vs = [.ref a, .ref b] ∧ H a = some (.lst (ivs hv)) ∧ H b = some (.lst (ivs pl)) ∧ pl.length ≤ 100 ∧ ∀ H', Same H H' → Q (.bl (anyHas hv pl)) H'
abbrev sAnyHas : Stmt := top 36
theorem scAnyHas : FnScope ["having", "places"] ["having", "places"] (defScope sAnyHas) := ⟨rfl, rfl, rfl, by decide +kernel, rfl, by decide +kernel, by decide +kernel⟩
theorem ndAH : (["having", "place"] : List Str).Nodup := by decide +kernel
theorem op_in_seqK {X : Cx} (K' : PySem.W.Frag) (hK : X.K = K') : OpR X (compareOp .In) (rIn K' false) := by
  subst hK; exact op_in_seq
theorem ok_anyhas {f : Addr} {fd : FuncData} (F : Fun K "any_has" "any_has" sAnyHas f fd) (hany : mg "any" = none) : FnOk P w K mg base CX0 1 f fd ["having", "places"] spAnyHas := by
  refine F.ok scAnyHas (fun vs H Q E h => ?_) (fun cdv A outer s H vs Q E hr h => ?_)
  · obtain ⟨a, b, hv, pl, rfl, _⟩ := h; rfl
  · obtain ⟨a, b, hv, pl, rfl, ha, hb, h100, k⟩ := h
    refine ⟨_, pss_one (ps_ret (pe_callB (call_any rfl) (by rfl) hany PyProof.Rows.boot_any (pa_cons (pe_comp (N := ["having", "place"]) (caps := [0]) rfl (compScope_of (by kernel_rfl)) (pi_list (pv 1))
        (fun cl C s H ex => pg_name (i := 1) ndAH rfl (Or.inl rfl)) (fun cl C s H ex => pf_nil)
        (fun cl C s H ex => pe_cmpR (op_in_seqK K rfl) (pv 1) (pv 0) (by with_unfolding_all rfl))) pa_nil))), ?_⟩
    refine ⟨_, rfl, b, rfl, ⟨_, .of hb⟩, ?_⟩
    refine comp_known0 (known_list K b (ivs pl)) [some (.ref a)] 1 (by rw [ivs_len]; omega) (fun i acc H' => H' = H ∧ acc = ((pl.take i).map fun p => decide (p ∈ hv)).map V.bl) ⟨rfl, rfl⟩ (fun i acc H' _ h => ⟨by rw [h.1]; exact .of hb, by rw [h.2, List.length_map, List.length_map, List.length_take]; omega⟩) ?_ ?_
    · rintro i y acc H' ys Nx hN hx hy ⟨rfl, rfl⟩
      obtain ⟨y', rfl⟩ := ys1 hy
      obtain ⟨n, en, rfl⟩ := ivs_get hx
      refine ⟨_, rfl, _, rfl, a, ivs hv, rfl, .inl (.of ha), rfl, flat_ivs hv, hN _ _ [some (.int (n : Int))] rfl ⟨rfl, ?_⟩⟩
      rw [List.take_succ_eq_append_getElem (List.getElem?_eq_some_iff.mp en).1, (List.getElem?_eq_some_iff.mp en).2, List.map_append, List.map_append]
      show _ ++ [V.bl (inV _ _)] = _
      rw [in_ivs]; rfl
    · rintro acc H' ⟨rfl, rfl⟩ D hD
      rw [ivs_len, List.take_length]
      refine ⟨D, pl.map fun p => decide (p ∈ hv), rfl, .of upd_same, ?_⟩
      have e : (pl.map fun p => decide (p ∈ hv)).any id = anyHas hv pl := by unfold anyHas; rw [List.any_map]; rfl
      rw [e]
      exact k _ (Same.upd1 hD)
def spAlone : Sp := fun vs H Q _ => ∃ (a b : Addr) (xs : List V) (rows : List (List Nat)) (pl : List Nat), vs = [.ref a, .ref b] ∧ H a = some (.lst xs) ∧ LsAt H xs rows ∧ rows.length ≤ 100 ∧ H b = some (.lst (ivs pl)) ∧ pl.length ≤ 100 ∧ ∀ H', Same H H' → Q (.bl (aloneM rows pl)) H'
abbrev sAlone : Stmt := top 37
theorem scAlone : FnScope ["by_step", "places"] ["by_step", "places"] (defScope sAlone) := ⟨rfl, rfl, rfl, by decide +kernel, rfl, by decide +kernel, by decide +kernel⟩
theorem ndAM : (["places", "having"] : List Str).Nodup := by decide +kernel
theorem ok_alone {f : Addr} {fd : FuncData} (F : Fun K "alone_make" "alone_make" sAlone f fd) (B : Blt mg) (cA : Cal P w K mg base 1 "any_has" ["having", "places"] spAnyHas) : FnOk P w K mg base CX0 2 f fd ["by_step", "places"] spAlone := by
  refine F.ok scAlone (fun vs H Q E h => ?_) (fun cdv A outer s H vs Q E hr h => ?_)
  · obtain ⟨a, b, xs, rows, pl, rfl, _⟩ := h; rfl
  · obtain ⟨a, b, xs, rows, pl, rfl, ha, ls, r100, hb, h100, k⟩ := h
    refine ⟨_, pss_one (ps_ret (pe_callB (call_all rfl) (by rfl) B.all PyProof.Rows.boot_all (pa_cons (pe_comp (N := ["places", "having"]) (caps := [1]) rfl (compScope_of (by kernel_rfl)) (pi_list (pv 0))
        (fun cl C s H ex => pg_name (i := 1) ndAM rfl (Or.inl rfl)) (fun cl C s H ex => pf_nil)
        (fun cl C s H ex => pe_cal cA hr rfl (pa_cons (pv 1) (pa_cons (pv 0) pa_nil)))) pa_nil))), ?_⟩
    have xl := ls.len
    refine ⟨_, rfl, a, rfl, ⟨_, .of ha⟩, ?_⟩
    refine comp_known0 (known_list K a xs) [some (.ref b)] 1 (by omega) (fun i acc H' => Same H H' ∧ acc = ((rows.take i).map fun hv => anyHas hv pl).map V.bl) ⟨Same.refl H, rfl⟩ (fun i acc H' _ h => ⟨.of (h.1 _ _ ha), by rw [h.2, List.length_map, List.length_map, List.length_take]; omega⟩) ?_ ?_
    · rintro i y acc H' ys Nx hN hx hy ⟨sm, rfl⟩
      obtain ⟨y', rfl⟩ := ys1 hy
      obtain ⟨a1, hv, ehv, rfl, h1⟩ := ls.get hx
      refine ⟨_, rfl, _, rfl, a1, b, hv, pl, rfl, sm _ _ h1, sm _ _ hb, h100, fun H5 s5 => hN _ _ [some (.ref a1)] rfl ⟨sm.trans s5, ?_⟩⟩
      rw [List.take_succ_eq_append_getElem (List.getElem?_eq_some_iff.mp ehv).1, (List.getElem?_eq_some_iff.mp ehv).2, List.map_append, List.map_append]; rfl
    · rintro acc H' ⟨sm, rfl⟩ D hD
      rw [xl, List.take_length]
      refine ⟨D, rows.map fun hv => anyHas hv pl, rfl, .of upd_same, ?_⟩
      have e : (rows.map fun hv => anyHas hv pl).all id = aloneM rows pl := by unfold aloneM; rw [List.all_map]; rfl
      rw [e]
      exact k _ (sm.upd_new (sm.free hD))
end
end Kn
end
section
set_option Elab.async false
set_option linter.all false
set_option maxRecDepth 100000
set_option maxHeartbeats 1000000
namespace Kn
open PySem L2
def risingL (l : List Nat) : Bool := (l.zip (l.drop 1)).all fun p => decide (p.1 < p.2)
def isPlL (n : Nat) (l : List Nat) : Bool := (l.all fun p => decide (p < n)) && risingL l
def fewerL (l : List Nat) : List (List Nat) := (List.range l.length).map fun i => l.take i ++ l.drop (i + 1)
def showsL (rows : List (List Nat)) (n : Nat) (l : List Nat) : Bool := isPlL n l && aloneM rows l && !((fewerL l).any fun m => aloneM rows m)
section
variable {P : Program} {w : World} {K : PySem.W.Frag} {mg : Str → Option Value} {base : Heap}
def spWholeI : Sp := fun vs H Q _ => ∃ i a b : Int, vs = [.int i, .int a, .int b] ∧ Q (.bl (decide (a ≤ i) && decide (i ≤ b))) H
theorem ok_wholeI {f : Addr} {fd : FuncData} (F : Fun K "is_whole" "is_whole" sIsWhole f fd) (B : Blt mg) (C : Cst K mg) : FnOk P w K mg base CX0 1 f fd ["thing", "least", "most"] spWholeI := by
  refine F.ok scIsWhole (fun vs H Q E h => ?_) (fun cdv A outer s H vs Q E hr h => ?_)
  · obtain ⟨i, a, b, rfl, _⟩ := h; rfl
  · obtain ⟨i, a, b, rfl, k⟩ := h
    refine ⟨_, pss_cons (ps_if (PW.pt (pw_or (pt_not (pt_val (pe_callB call_isinst (by rfl) B.isinstance PyProof.Rows.boot_isinstance (pa_cons (pv 0) (pa_cons (pe_bltn (v := .ty "int") (by rfl) B.int PyProof.Rows.boot_int rfl) pa_nil)))))
        (pw_or1 (pt_val (pe_callB call_isinst (by rfl) B.isinstance PyProof.Rows.boot_isinstance (pa_cons (pv 0) (pa_cons (pe_bltn (v := .ty "bool") (by rfl) B.bool PyProof.Rows.boot_bool rfl) pa_nil)))))))
        (pss_one (ps_ret pe_bl)) pss_nil)
      (pss_one (ps_ret (pe_chain op_le op_le (pv 1) (pv 0) (pv 2)))), ?_⟩
    refine ⟨_, rfl, _, _, _, true, rfl, .int _, (by rfl), _, rfl, ?_⟩
    refine iteF ?_
    refine ⟨_, rfl, _, _, _, false, rfl, .int _, C.ib, _, rfl, ?_⟩
    refine iteF ?_
    refine ⟨_, rfl, _, rfl, _, _, rfl, rfl, _, rfl, ?_⟩
    by_cases h : a ≤ i
    · rw [decide_eq_true h] at k
      refine iteD h ⟨_, rfl, _, _, rfl, rfl, ?_⟩
      exact k
    · rw [decide_eq_false h] at k
      exact iteDF h k
theorem whole_imp {vs : List V} {H : Hp} {Q : VK} {E : XK} (h : spIsWhole vs H Q E) : spWholeI vs H Q E := by
  obtain ⟨o, a, b, rfl, h1, h2, k⟩ := h
  refine ⟨o, a, b, rfl, ?_⟩
  rw [decide_eq_true (show (a : Int) ≤ o by omega), decide_eq_true (show (o : Int) ≤ b by omega)]; exact k
def spRising : Sp := fun vs H Q _ => ∃ (a : Addr) (l : List Nat), vs = [.ref a] ∧ H a = some (.lst (ivs l)) ∧ l.length ≤ 100 ∧ ∀ H', Same H H' → Q (.bl (risingL l)) H'
abbrev sRising : Stmt := top 14
theorem scRising : FnScope ["things"] ["things"] (defScope sRising) := ⟨rfl, rfl, rfl, by decide +kernel, rfl, by decide +kernel, by decide +kernel⟩
theorem ndRi : (["one", "other"] : List Str).Nodup := by decide +kernel
theorem ivs_drop (l : List Nat) : cutV (ivs l) (some 1) none = ivs (l.drop 1) := by
  unfold cutV
  have e : HT.sIx (ivs l).length 0 (some 1) = min 1 (ivs l).length := HT.sIx_nat _ _ 1
  have e2 : HT.sIx (ivs l).length (ivs l).length none = (ivs l).length := rfl
  rw [e, e2]
  unfold ivs
  rw [List.map_drop, List.length_map]
  cases l with
  | nil => rfl
  | cons x l =>
    rw [List.length_cons, Nat.min_eq_left (by omega)]
    rw [List.take_of_length_le (by rw [List.length_drop, List.length_map, List.length_cons]; omega)]
theorem ok_rising {f : Addr} {fd : FuncData} (F : Fun K "is_rising" "is_rising" sRising f fd) (B : Blt mg) (hz : mg "zip" = none) : FnOk P w K mg base CX0 1 f fd ["things"] spRising := by
  refine F.ok scRising (fun vs H Q E h => ?_) (fun cdv A outer s H vs Q E hr h => ?_)
  · obtain ⟨a, l, rfl, _⟩ := h; rfl
  · obtain ⟨a, l, rfl, ha, h100, k⟩ := h
    refine ⟨_, pss_one (ps_ret (pe_callB (call_all rfl) (by rfl) B.all PyProof.Rows.boot_all (pa_cons (pe_comp (N := ["one", "other"]) (caps := []) rfl (compScope_of (by kernel_rfl)) (pi_zip false rfl hz (pa_cons (pv 0) (pa_cons (pe_slice sl_list (pv 0) (po_some pe_int) po_none) pa_nil)))
        (fun cl C s H ex => pg_tupK K 2 rfl rfl (pgs_cons (pg_name (i := 0) ndRi rfl (Or.inl rfl)) (pgs_cons (pg_name (i := 1) ndRi rfl (Or.inl rfl)) pgs_nil)) rfl rfl)
        (fun cl C s H ex => pf_nil)
        (fun cl C s H ex => pe_cmpR op_lt (pv 0) (pv 1) (nomark _))) pa_nil))), ?_⟩
    refine ⟨_, rfl, _, rfl, _, rfl, a, _, rfl, .of ha, fun b hb => ?_⟩
    rw [ivs_drop]
    have t1 : Same H (upd H b (.lst (ivs (l.drop 1)))) := Same.upd1 hb
    have ha1 := t1 _ _ ha
    have hb1 : (upd H b (.lst (ivs (l.drop 1)))) b = some (.lst (ivs (l.drop 1))) := upd_same
    generalize upd H b (.lst (ivs (l.drop 1))) = H1 at t1 ha1 hb1
    refine ⟨a, b, _, _, rfl, .of ha1, (show SqB false K H1 b (ivs (l.drop 1)) from .of hb1), ?_⟩
    have dl : (l.drop 1).length = l.length - 1 := by rw [List.length_drop]
    refine comp_pairs (J := Itz K false a b) (xs := ivs l) (ys := ivs (l.drop 1)) (len := (l.drop 1).length) (Hk := fun H' => SqL K H' a (ivs l) ∧ SqB false K H' b (ivs (l.drop 1)))
      (fun i H' hk hi => ⟨ivs l, ivs (l.drop 1), (ivs l)[i]'(by rw [ivs_len]; omega), (ivs (l.drop 1))[i]'(by rw [ivs_len]; exact hi), hk.1, hk.2, List.getElem?_eq_getElem _, List.getElem?_eq_getElem _⟩)
      (fun i H' hk e => ⟨ivs l, ivs (l.drop 1), hk.1, hk.2, by rw [ivs_len, ivs_len]; omega⟩)
      (fun i H' x H'' hk ⟨T, x1, y1, e1, e2, e3, e4, e5⟩ => ⟨T, x1, y1, e1, e2, e3, e4 _ hk.1, e5 _ hk.2⟩)
      [] 2 (by omega) (fun i acc H' => Same H1 H' ∧ acc = (((l.zip (l.drop 1)).take i).map fun p => decide (p.1 < p.2)).map V.bl)
      ⟨Same.refl _, rfl⟩ (fun i acc H' hi h => ⟨⟨.of (h.1 _ _ ha1), (show SqB false K H' b (ivs (l.drop 1)) from .of (h.1 _ _ hb1))⟩, by rw [h.2, List.length_map, List.length_map, List.length_take]; omega⟩) ?_ ?_
    · rintro i x y T acc H' zs Nx hN hx hy hz' ⟨sm, rfl⟩ hT
      obtain ⟨z1, z2, rfl⟩ := ys2 hz'
      obtain ⟨n1, e1, rfl⟩ := ivs_get hx
      obtain ⟨n2, e2, rfl⟩ := ivs_get hy
      have t2 : Same H' (upd H' T (.tup [.int (n1 : Int), .int (n2 : Int)])) := Same.upd1 hT
      refine ⟨T, _, rfl, .of upd_same, rfl, _, _, rfl, _, _, rfl, rfl, ?_⟩
      unfold tYes
      dsimp only
      rw [if_pos rfl]
      refine ⟨_, rfl, _, rfl, _, _, rfl, rfl, hN _ _ [_, _] rfl ⟨sm.trans t2, ?_⟩⟩
      have ez : (l.zip (l.drop 1))[i]? = some (n1, n2) := by
        rw [List.getElem?_zip_eq_some]; exact ⟨e1, e2⟩
      rw [List.take_succ_eq_append_getElem (List.getElem?_eq_some_iff.mp ez).1, (List.getElem?_eq_some_iff.mp ez).2, List.map_append, List.map_append]
      show _ ++ [V.bl (decide ((n1 : Int) < (n2 : Int)))] = _
      have : decide ((n1 : Int) < (n2 : Int)) = decide (n1 < n2) := decide_eq_decide.mpr (by omega)
      rw [this]; rfl
    · rintro acc H' ⟨sm, rfl⟩ D hD
      have e : (l.zip (l.drop 1)).take (l.drop 1).length = l.zip (l.drop 1) := List.take_of_length_le (by rw [List.length_zip]; omega)
      rw [e]
      refine ⟨D, (l.zip (l.drop 1)).map fun p => decide (p.1 < p.2), rfl, .of upd_same, ?_⟩
      have e3 : ((l.zip (l.drop 1)).map fun p => decide (p.1 < p.2)).all id = risingL l := by unfold risingL; rw [List.all_map]; rfl
      rw [e3]
      exact k _ ((t1.trans sm).upd_new ((t1.trans sm).free hD))
def spIsPl : Sp := fun vs H Q _ => ∃ (v : V) (n : Nat), vs = [v, .int (n : Int)] ∧ ((v = .non ∧ Q (.bl false) H) ∨ ∃ (a : Addr) (l : List Nat), v = .ref a ∧ H a = some (.lst (ivs l)) ∧ l.length ≤ 100 ∧ ∀ H', Same H H' → Q (.bl (isPlL n l)) H')
abbrev sIsPl : Stmt := top 40
theorem scIsPl : FnScope ["thing", "many"] ["thing", "many"] (defScope sIsPl) := ⟨rfl, rfl, rfl, by decide +kernel, rfl, by decide +kernel, by decide +kernel⟩
theorem ndIP : (["many", "place"] : List Str).Nodup := by decide +kernel
theorem ok_ispl {f : Addr} {fd : FuncData} (F : Fun K "is_list_of_places" "is_list_of_places" sIsPl f fd) (B : Blt mg) (hli : mg "list" = none) (cW : Cal P w K mg base 1 "is_whole" ["thing", "least", "most"] spWholeI) (cR : Cal P w K mg base 1 "is_rising" ["things"] spRising) : FnOk P w K mg base CX0 2 f fd ["thing", "many"] spIsPl := by
  refine F.ok scIsPl (fun vs H Q E h => ?_) (fun cdv A outer s H vs Q E hr h => ?_)
  · obtain ⟨v, n, rfl, _⟩ := h; rfl
  · obtain ⟨v, n, rfl, h⟩ := h
    refine ⟨_, pss_cons (ps_if (pt_not (pt_val (pe_callB call_isinst (by rfl) B.isinstance PyProof.Rows.boot_isinstance (pa_cons (pv 0) (pa_cons (pe_bltn (v := .ty "list") (by rfl) hli PyProof.Rows.boot_list rfl) pa_nil))))) (pss_one (ps_ret pe_bl)) pss_nil)
      (pss_one (ps_ret (pe_and (pe_callB (call_all rfl) (by rfl) B.all PyProof.Rows.boot_all (pa_cons (pe_comp (N := ["many", "place"]) (caps := [1]) rfl (compScope_of (by kernel_rfl)) (pi_list (pv 0))
          (fun cl C s H ex => pg_name (i := 1) ndIP rfl (Or.inl rfl)) (fun cl C s H ex => pf_nil)
          (fun cl C s H ex => pe_cal cW hr rfl (pa_cons (pv 1) (pa_cons pe_int (pa_cons (pe_op op_sub (pv 0) pe_int) pa_nil))))) pa_nil))
        (pe_one (pe_cal cR hr rfl (pa_cons (pv 0) pa_nil)))))), ?_⟩
    rcases h with ⟨rfl, k⟩ | ⟨a, l, rfl, ha, h100, k⟩
    · exact ⟨_, rfl, _, _, _, false, rfl, .non, (by rfl), _, rfl, iteT k⟩
    · refine ⟨_, rfl, _, _, _, true, rfl, .lst ha, (by rfl), _, rfl, iteF ?_⟩
      refine ⟨_, rfl, a, rfl, ⟨_, .of ha⟩, ?_⟩
      refine comp_known0 (known_list K a (ivs l)) [some (.int (n : Int))] 1 (by rw [ivs_len]; omega) (fun i acc H' => H' = H ∧ acc = ((l.take i).map fun p => decide (p < n)).map V.bl) ⟨rfl, rfl⟩ (fun i acc H' _ h => ⟨by rw [h.1]; exact .of ha, by rw [h.2, List.length_map, List.length_map, List.length_take]; omega⟩) ?_ ?_
      · rintro i y acc H' ys Nx hN hx hy ⟨rfl, rfl⟩
        obtain ⟨y', rfl⟩ := ys1 hy
        obtain ⟨p, ep, rfl⟩ := ivs_get hx
        refine ⟨_, rfl, _, rfl, _, _, rfl, rfl, (p : Int), 0, (n : Int) - 1, rfl, hN _ _ [some (.int (p : Int))] rfl ⟨rfl, ?_⟩⟩
        rw [List.take_succ_eq_append_getElem (List.getElem?_eq_some_iff.mp ep).1, (List.getElem?_eq_some_iff.mp ep).2, List.map_append, List.map_append]
        have e : (decide ((0 : Int) ≤ (p : Int)) && decide ((p : Int) ≤ (n : Int) - 1)) = decide (p < n) := by
          rw [decide_eq_true (by omega : (0 : Int) ≤ (p : Int)), Bool.true_and]
          exact decide_eq_decide.mpr (by omega)
        rw [e]; rfl
      · rintro acc H' ⟨rfl, rfl⟩ D hD
        rw [ivs_len, List.take_length]
        refine ⟨D, l.map fun p => decide (p < n), rfl, .of upd_same, ?_⟩
        have e : (l.map fun p => decide (p < n)).all id = l.all fun p => decide (p < n) := by rw [List.all_map]; rfl
        rw [e]
        have t1 : Same H' (upd H' D (.lst ((l.map fun p => decide (p < n)).map V.bl))) := Same.upd1 hD
        cases eg : l.all fun p => decide (p < n) with
        | true =>
          refine ⟨true, rfl, iteT ⟨_, rfl, a, l, rfl, t1 _ _ ha, h100, fun H5 s5 => ?_⟩⟩
          have := k H5 (t1.trans s5)
          unfold isPlL at this
          rw [eg, Bool.true_and] at this
          exact this
        | false =>
          refine ⟨false, rfl, iteF ?_⟩
          have := k _ t1
          unfold isPlL at this
          rw [eg, Bool.false_and] at this
          exact this
end
end Kn
end
section
set_option Elab.async false
set_option linter.all false
set_option maxRecDepth 100000
set_option maxHeartbeats 1000000
namespace Kn
open PySem L2
theorem cutV_to (l : List Nat) (k : Nat) : cutV (ivs l) none (some (k : Int)) = ivs (l.take k) := by
  unfold cutV
  rw [HT.sIx_nat]
  show ((ivs l).drop 0).take (min k (ivs l).length - 0) = _
  rw [List.drop_zero, Nat.sub_zero]
  unfold ivs
  rw [List.map_take, List.length_map]
  by_cases h : k ≤ l.length
  · rw [Nat.min_eq_left h]
  · rw [Nat.min_eq_right (by omega), List.take_of_length_le (by rw [List.length_map]; omega), List.take_of_length_le (by rw [List.length_map]; omega)]
theorem cutV_from (l : List Nat) (k : Nat) : cutV (ivs l) (some (k : Int)) none = ivs (l.drop k) := by
  unfold cutV
  have e2 : HT.sIx (ivs l).length (ivs l).length none = (ivs l).length := rfl
  rw [HT.sIx_nat, e2]
  unfold ivs
  rw [List.map_drop, List.length_map]
  by_cases h : k ≤ l.length
  · rw [Nat.min_eq_left h, List.take_of_length_le (by rw [List.length_drop, List.length_map]; omega)]
  · rw [Nat.min_eq_right (by omega), List.drop_of_length_le (by rw [List.length_map]; omega), List.drop_of_length_le (by rw [List.length_map]; omega), List.take_nil]
section
variable {P : Program} {w : World} {K : PySem.W.Frag} {mg : Str → Option Value} {base : Heap}
theorem sl_listK {X : Cx} (K' : PySem.W.Frag) (hK : X.K = K') : SlR X (rSlL K') := by
  subst hK; exact sl_list
def spShows : Sp := fun vs H Q _ => ∃ (b : Addr) (bk : List S) (o : Nat) (nm : S) (v : V), vs = [.ref b, .int o, sv nm, v] ∧ H b = some (.tup (bkV bk)) ∧ Bk bk o ∧ isNm nm ∧
  ((v = .non ∧ ∀ H', Same H H' → Q (.bl false) H') ∨ ∃ (a : Addr) (l : List Nat), v = .ref a ∧ H a = some (.lst (ivs l)) ∧ l.length ≤ 50 ∧ ∀ H', Same H H' → Q (.bl (showsL (rowsP bk o nm) bk.length l)) H')
abbrev sShows : Stmt := top 41
theorem scShows : FnScope ["book", "order", "name", "thing", "by_step", "fewer"] ["book", "order", "name", "thing"] (defScope sShows) := ⟨rfl, rfl, rfl, by decide +kernel, rfl, by decide +kernel, by decide +kernel⟩
theorem ndSh1 : (["thing", "place"] : List Str).Nodup := by decide +kernel
theorem ndSh2 : (["by_step", "places"] : List Str).Nodup := by decide +kernel
theorem ok_shows {f : Addr} {fd : FuncData} (F : Fun K "shows" "shows" sShows f fd) (B : Blt mg) (hany : mg "any" = none) (N : Needs P w K mg base) (cI : Cal P w K mg base 2 "is_list_of_places" ["thing", "many"] spIsPl) (cP : Cal P w K mg base 4 "places_by_step" ["book", "order", "name"] spPbs) (cA : Cal P w K mg base 2 "alone_make" ["by_step", "places"] spAlone) :
    FnOk P w K mg base CX0 5 f fd ["book", "order", "name", "thing"] spShows := by
  refine F.ok scShows (fun vs H Q E h => ?_) (fun cdv A outer s H vs Q E hr h => ?_)
  · obtain ⟨b, bk, o, nm, v, rfl, _⟩ := h; rfl
  · obtain ⟨b, bk, o, nm, v, rfl, hb, hB, hn, h⟩ := h
    have nd := scShows.nd
    have hr3 := hr.mono (j := 3) (by decide)
    have hr2 := hr.mono (j := 2) (by decide)
    refine ⟨_, pss_cons (ps_expr (pe_cal N.bk hr3 rfl (pa_cons (pv 0) pa_nil))) (pss_cons (ps_expr (pe_cal N.od hr3 rfl (pa_cons (pv 1) pa_nil))) (pss_cons (ps_expr (pe_cal N.nm hr2 rfl (pa_cons (pv 2) pa_nil)))
      (pss_cons (ps_if (pt_not (pt_val (pe_cal cI hr2 rfl (pa_cons (pv 3) (pa_cons (pe_callB call_len_seq (by rfl) B.len PySem.boot_len (pa_cons (pv 0) pa_nil)) pa_nil))))) (pss_one (ps_ret pe_bl)) pss_nil)
      (pss_cons (ps_set (i := 4) nd rfl (Or.inr rfl) (pe_cal cP hr rfl (pa_cons (pv 0) (pa_cons (pv 1) (pa_cons (pv 2) pa_nil)))))
      (pss_cons (ps_if (pt_not (pt_val (pe_cal cA hr2 rfl (pa_cons (pv 4) (pa_cons (pv 3) pa_nil))))) (pss_one (ps_ret pe_bl)) pss_nil)
      (pss_cons (ps_setC (j := 5) (N := ["thing", "place"]) (caps := [3]) nd rfl (Or.inl rfl) rfl (compScope_of (by kernel_rfl)) (pi_range1 rfl B.range (pa_cons (pe_callB call_len_seq (by rfl) B.len PySem.boot_len (pa_cons (pv 3) pa_nil)) pa_nil))
          (fun cl X s H ex => pg_name (i := 1) ndSh1 rfl (Or.inl rfl)) (fun cl X s H ex => pf_nil)
          (fun cl X s H ex => pe_op op_cat (pe_slice (sl_listK K rfl) (pv 0) po_none (po_some (pv 1))) (pe_slice (sl_listK K rfl) (pv 0) (po_some (pe_op op_add (pv 1) pe_int)) po_none)))
      (pss_one (ps_ret (pe_not (pe_callB (call_any rfl) (by rfl) hany PyProof.Rows.boot_any (pa_cons (pe_comp (N := ["by_step", "places"]) (caps := [4]) rfl (compScope_of (by kernel_rfl)) (pi_list (pv 5))
          (fun cl X s H ex => pg_name (i := 1) ndSh2 rfl (Or.inl rfl)) (fun cl X s H ex => pf_nil)
          (fun cl X s H ex => pe_cal cA hr2 rfl (pa_cons (pv 0) (pa_cons (pv 1) pa_nil)))) pa_nil))))))))))), ?_⟩
    refine ⟨_, rfl, b, bk, rfl, hb, hB.toisBk, fun H1 s1 => ?_⟩
    refine ⟨_, rfl, o, rfl, hB.o1, hB.o3, ?_⟩
    refine ⟨_, rfl, nm, rfl, hn, fun H2 s2 => ?_⟩
    have s02 := s1.trans s2
    have ebk : (bkV bk).length = bk.length := List.length_map ..
    refine ⟨_, rfl, _, rfl, b, bkV bk, rfl, .inr (.of (s02 _ _ hb)), v, bk.length, by rw [ebk]; rfl, ?_⟩
    rcases h with ⟨rfl, k⟩ | ⟨a, l, rfl, ha, h50, k⟩
    · exact .inl ⟨rfl, _, rfl, iteT (k _ s02)⟩
    refine .inr ⟨a, l, rfl, s02 _ _ ha, by omega, fun H3 s3 => ⟨_, rfl, ?_⟩⟩
    have s03 := s02.trans s3
    cases e1 : isPlL bk.length l with
    | false =>
      refine iteT ?_
      have := k _ s03
      unfold showsL at this
      rw [e1, Bool.false_and, Bool.false_and] at this
      exact this
    | true =>
    refine iteF ?_
    refine ⟨_, rfl, _, rfl, _, rfl, b, bk, o, nm, rfl, s03 _ _ hb, hB, hn, fun lr xr H4 s4 hlr lsr => ?_⟩
    have s04 := s03.trans s4
    have rl : (rowsP bk o nm).length ≤ 100 := by
      unfold rowsP pairs1
      rw [List.length_map, List.length_map, List.length_range]
      have := hn.2.1; omega
    refine ⟨_, rfl, _, rfl, lr, a, xr, rowsP bk o nm, l, rfl, hlr, lsr, rl, s04 _ _ ha, by omega, fun H5 s5 => ⟨_, rfl, ?_⟩⟩
    have s05 := s04.trans s5
    cases e2 : aloneM (rowsP bk o nm) l with
    | false =>
      refine iteT ?_
      have := k _ s05
      unfold showsL at this
      rw [e1, e2, Bool.and_false, Bool.false_and] at this
      exact this
    | true =>
    refine iteF ?_
    refine ⟨_, rfl, a, ivs l, rfl, .inl (.of (s05 _ _ ha)), _, rfl, by rw [ivs_len]; omega, by rw [ivs_len]; omega, ?_⟩
    have enn : ((ivs l).length : Int).toNat = l.length := by rw [ivs_len]; omega
    refine comp_known0 (known_range 0 _) [some (.ref a)] 1 (by rw [List.length_map, List.length_range, enn]; omega) (fun i acc H' => Same H5 H' ∧ acc.length = i ∧ LsAt H' acc ((fewerL l).take i))
      ⟨Same.refl _, rfl, LsAt.nil⟩ (fun i acc H' _ h => ⟨trivial, Nat.le_of_eq h.2.1⟩) ?_ ?_
    · rintro i y acc H' ys Nx hN hx hy ⟨sm, hal, ls⟩
      obtain ⟨y', rfl⟩ := ys1 hy
      rw [enn] at hx
      obtain ⟨hi, rfl⟩ := range_item hx
      have ha1 := (s05.trans sm) _ _ ha
      refine ⟨_, rfl, _, rfl, _, rfl, a, _, rfl, .of ha1, fun p1 hp1 => ?_⟩
      rw [cutV_to]
      have t1 : Same H' (upd H' p1 (.lst (ivs (l.take i)))) := Same.upd1 hp1
      refine ⟨_, rfl, _, rfl, _, _, rfl, rfl, _, rfl, a, _, rfl, .of (t1 _ _ ha1), fun p2 hp2 => ?_⟩
      have ec : cutV (ivs l) (some ((i : Int) + 1)) none = ivs (l.drop (i + 1)) := cutV_from l (i + 1)
      rw [ec]
      have t2 := Same.upd1 (o := .lst (ivs (l.drop (i + 1)))) hp2
      refine ⟨p1, p2, _, _, rfl, rfl, t2 _ _ upd_same, upd_same, by rw [ivs_len, ivs_len, List.length_take, List.length_drop, sizeLine_eq]; omega, fun p3 hp3 => hN _ _ [some (.int (i : Int))] rfl ⟨((sm.trans t1).trans t2).trans (Same.upd1 hp3), by rw [List.length_append, hal]; rfl, ?_⟩⟩
      have ef : (fewerL l).take (i + 1) = (fewerL l).take i ++ [l.take i ++ l.drop (i + 1)] := by
        unfold fewerL
        rw [← List.map_take, ← List.map_take, List.take_range, List.take_range, Nat.min_eq_left (by omega), Nat.min_eq_left (by omega), List.range_succ, List.map_append]; rfl
      rw [ef]
      refine (ls.same ((t1.trans t2).trans (Same.upd1 hp3))).snoc ?_
      rw [upd_same]; unfold ivs; rw [List.map_append]
    rintro acc H6 ⟨s6, hal, ls⟩ D hD
    rw [List.length_map, List.length_range, enn] at hal ls
    have efl : (fewerL l).take l.length = fewerL l := List.take_of_length_le (by unfold fewerL; rw [List.length_map, List.length_range]; exact Nat.le_refl _)
    rw [efl] at ls
    have u1 : Same H6 (upd H6 D (.lst acc)) := Same.upd1 hD
    have s06 := (s05.trans s6).trans u1
    have lsr6 := lsr.same ((s5.trans s6).trans u1)
    have hlr6 := ((s5.trans s6).trans u1) _ _ hlr
    have ls6 := ls.same u1
    have hD6 : (upd H6 D (.lst acc)) D = some (.lst acc) := upd_same
    generalize upd H6 D (.lst acc) = H7 at s06 lsr6 hlr6 ls6 hD6
    refine ⟨_, rfl, D, rfl, ⟨_, .of hD6⟩, ?_⟩
    refine comp_known0 (known_list K D acc) [some (.ref lr)] 1 (by omega) (fun i acc' H' => Same H7 H' ∧ acc' = (((fewerL l).take i).map fun m => aloneM (rowsP bk o nm) m).map V.bl)
      ⟨Same.refl _, rfl⟩ (fun i acc' H' _ h => ⟨.of (h.1 _ _ hD6), by rw [h.2, List.length_map, List.length_map, List.length_take]; omega⟩) ?_ ?_
    · rintro i y acc' H' ys Nx hN hx hy ⟨sm, rfl⟩
      obtain ⟨y', rfl⟩ := ys1 hy
      obtain ⟨a1, m, em, rfl, h1⟩ := ls6.get hx
      have ml : m.length ≤ 100 := by
        have hm := List.mem_of_getElem? em
        unfold fewerL at hm
        obtain ⟨j, _, rfl⟩ := List.mem_map.mp hm
        rw [List.length_append, List.length_take, List.length_drop]; omega
      refine ⟨_, rfl, _, rfl, lr, a1, xr, rowsP bk o nm, m, rfl, sm _ _ hlr6, lsr6.same sm, rl, sm _ _ h1, ml, fun H8 s8 => hN _ _ [some (.ref a1)] rfl ⟨sm.trans s8, ?_⟩⟩
      rw [List.take_succ_eq_append_getElem (List.getElem?_eq_some_iff.mp em).1, (List.getElem?_eq_some_iff.mp em).2, List.map_append, List.map_append]; rfl
    · rintro acc' H8 ⟨s8, rfl⟩ D2 hD2
      have efl2 : (fewerL l).take acc.length = fewerL l := by rw [hal]; exact efl
      rw [efl2]
      refine ⟨D2, (fewerL l).map fun m => aloneM (rowsP bk o nm) m, rfl, .of upd_same, ?_⟩
      have e3 : ((fewerL l).map fun m => aloneM (rowsP bk o nm) m).any id = (fewerL l).any fun m => aloneM (rowsP bk o nm) m := by rw [List.any_map]; rfl
      rw [e3]
      refine ⟨_, rfl, ?_⟩
      have := k _ ((s06.trans s8).upd_new (o := .lst (((fewerL l).map fun m => aloneM (rowsP bk o nm) m).map V.bl)) ((s06.trans s8).free hD2))
      unfold showsL at this
      rw [e1, e2, Bool.true_and, Bool.true_and] at this
      exact this
end
end Kn
end
section
set_option Elab.async false
set_option linter.all false
set_option maxRecDepth 100000
set_option maxHeartbeats 1000000
namespace Kn
open PySem L2
def leastOf (l : List Nat) : Nat := match l.getLast? with | some p => p + 1 | none => 0
def longer1 (l : List Nat) (n : Nat) : List (List Nat) := (List.range (n - leastOf l)).map fun j => l ++ [leastOf l + j]
def longerL (ls : List (List Nat)) (n : Nat) : List (List Nat) := ls.flatMap fun l => longer1 l n
def intsD (l : List Nat) : PyData := .list ((l.map fun (i : Nat) => (i : Int)).map PyData.int)
theorem ivs_ints (l : List Nat) : ivs l = (l.map fun (i : Nat) => (i : Int)).map V.int := by unfold ivs; rw [List.map_map]; rfl
section
variable {P : Program} {w : World} {K : PySem.W.Frag} {mg : Str → Option Value} {base : Heap}
theorem rep_ivs {H : Hp} {a : Addr} {l : List Nat} (h : H a = some (.lst (ivs l))) : Rep K H (intsD l) (.ref a) := ⟨a, _, rfl, .of h, by rw [ivs_ints]; exact reps_ints _⟩
theorem eqv_niL (ds : List PyData) : PyData.eqv (.list ds) (.list []) = ds.isEmpty := by cases ds <;> rfl
theorem tSeq_abs {t u : TS} {D : Ends} {σ : St} {H : Hp} (R : St → Hp → Prop) (h2 : ∀ σ' H', R σ' H' → u D σ' H') (h1 : ∀ N : St → Hp → Prop, (∀ σ' H', R σ' H' → N σ' H') → t { D with nx := N } σ H) : tSeq t u D σ H := h1 (u D) h2
theorem gName_nx {j : Nat} {v : V} {σ : St} {H : Hp} {Q : St → Hp → Prop} (h : Q (σ.set j (some v)) H) : gName j v σ H Q := h
structure LsX (p : Addr) (H : Hp) (vs : List V) (ls : List (List Nat)) : Prop where
  len : vs.length = ls.length
  at_ : ∀ (i : Nat) (v : V) (l : List Nat), vs[i]? = some v → ls[i]? = some l → ∃ a, v = .ref a ∧ a ≠ p ∧ H a = some (.lst (ivs l))
theorem LsX.ls {p : Addr} {H : Hp} {vs : List V} {ls : List (List Nat)} (h : LsX p H vs ls) : LsAt H vs ls := ⟨h.len, fun i v l h1 h2 => let ⟨a, e, _, f⟩ := h.at_ i v l h1 h2; ⟨a, e, f⟩⟩
theorem LsX.same {p : Addr} {H H' : Hp} {vs : List V} {ls : List (List Nat)} (h : LsX p H vs ls) (e : Same H H') : LsX p H' vs ls := ⟨h.len, fun i v l h1 h2 => let ⟨a, e1, n, f⟩ := h.at_ i v l h1 h2; ⟨a, e1, n, e _ _ f⟩⟩
theorem LsX.upd {p : Addr} {H : Hp} {o : HO} {vs : List V} {ls : List (List Nat)} (h : LsX p H vs ls) : LsX p (upd H p o) vs ls := ⟨h.len, fun i v l h1 h2 => let ⟨a, e1, n, f⟩ := h.at_ i v l h1 h2; ⟨a, e1, n, by rw [upd_ne n]; exact f⟩⟩
theorem LsX.append {p : Addr} {H : Hp} {vs us : List V} {ls ms : List (List Nat)} (h : LsX p H vs ls) (g : LsX p H us ms) : LsX p H (vs ++ us) (ls ++ ms) := by
  refine ⟨by rw [List.length_append, List.length_append, h.len, g.len], fun i v l h1 h2 => ?_⟩
  by_cases hi : i < vs.length
  · rw [List.getElem?_append_left hi] at h1
    rw [List.getElem?_append_left (by rw [← h.len]; exact hi)] at h2
    exact h.at_ i v l h1 h2
  · rw [List.getElem?_append_right (by omega)] at h1
    rw [List.getElem?_append_right (by rw [← h.len]; omega), ← h.len] at h2
    exact g.at_ _ v l h1 h2
theorem LsX.one {p : Addr} {H : Hp} {a : Addr} {l : List Nat} (hn : a ≠ p) (f : H a = some (.lst (ivs l))) : LsX p H [.ref a] [l] := by
  refine ⟨rfl, fun i v m h1 h2 => ?_⟩
  match i, h1, h2 with
  | 0, h1, h2 =>
    have h1' : V.ref a = v := Option.some.inj h1
    have h2' : l = m := Option.some.inj h2
    subst h1' h2'
    exact ⟨a, rfl, hn, f⟩
  | n + 1, h1, _ => simp at h1
theorem LsX.nil {p : Addr} {H : Hp} : LsX p H [] [] := ⟨rfl, fun i v l h => by simp at h⟩
def spLonger : Sp := fun vs H Q _ => ∃ (a : Addr) (xs : List V) (ls : List (List Nat)) (n : Nat), vs = [.ref a, .int (n : Int)] ∧ H a = some (.lst xs) ∧ LsAt H xs ls ∧ ls.length ≤ 1000 ∧ n ≤ 8 ∧ (∀ l ∈ ls, l.length ≤ 100 ∧ leastOf l ≤ 100) ∧ ∀ p ys H', Same H H' → H' p = some (.lst ys) → LsAt H' ys (longerL ls n) → Q (.ref p) H'
abbrev sLonger : Stmt := top 38
theorem scLonger : FnScope ["lists", "many", "longer", "places", "least"] ["lists", "many"] (defScope sLonger) := ⟨rfl, rfl, rfl, by decide +kernel, rfl, by decide +kernel, by decide +kernel⟩
theorem ndLo : (["places", "place"] : List Str).Nodup := by decide +kernel
theorem longer1_len (l : List Nat) (n : Nat) : (longer1 l n).length ≤ n := by unfold longer1; rw [List.length_map, List.length_range]; omega
theorem longerL_len (n : Nat) : ∀ ls : List (List Nat), (longerL ls n).length ≤ ls.length * n
  | [] => by simp [longerL]
  | l :: ls => by
    have ih := longerL_len n ls
    have e : longerL (l :: ls) n = longer1 l n ++ longerL ls n := by unfold longerL; rw [List.flatMap_cons]
    rw [e, List.length_append, List.length_cons, Nat.succ_mul]
    have := longer1_len l n
    omega
theorem ok_longer {f : Addr} {fd : FuncData} (F : Fun K "longer_lists" "longer_lists" sLonger f fd) (B : Blt mg) : FnOk P w K mg base CX0 1 f fd ["lists", "many"] spLonger := by
  refine F.ok scLonger (fun vs H Q E h => ?_) (fun cdv A outer s H vs Q E hr h => ?_)
  · obtain ⟨a, xs, ls, n, rfl, _⟩ := h; rfl
  · obtain ⟨a, xs, ls, n, rfl, ha, hls, hln, hn8, hb, k⟩ := h
    have nd := scLonger.nd
    have hu := hr.units
    refine ⟨_, pss_cons (ps_set (i := 2) nd rfl (Or.inl rfl) (pe_lst pa_nil))
      (pss_cons (ps_for PassesOwn.never rfl (pi_list (pv 0)) (pg_name (i := 3) nd rfl (Or.inr rfl))
        (pss_cons (ps_set (i := 4) nd rfl (Or.inl rfl) (pe_ifExp (pt_cmpR (op_neD hu) (pv 3) (pe_lst pa_nil) (nomark _)) (pe_op op_add (pe_ix ix_list (pv 3) (pe_un un_neg pe_int) (fun _ _ => rfl)) pe_int) pe_int))
        (pss_one (ps_expr (pe_bm PySem.F.plainAttrs_list PySem.F.slot_list_extend PySem.F.type_list_extend mt_extend (pv 2) (pa_cons
          (pe_comp (N := ["places", "place"]) (caps := [3]) rfl (compScope_of (by kernel_rfl)) (pi_range2 rfl B.range (pa_cons (pv 4) (pa_cons (pv 1) pa_nil)))
            (fun cl X s H ex => pg_name (i := 1) ndLo rfl (Or.inl rfl)) (fun cl X s H ex => pf_nil)
            (fun cl X s H ex => pe_op op_cat (pv 0) (pe_lst (pa_cons (pv 1) pa_nil)))) pa_nil))))))
      (pss_one (ps_ret (pv 2)))), ?_⟩
    refine ⟨by show 0 ≤ sizeLine; decide, fun p hp => ?_⟩
    refine ⟨_, rfl, a, rfl, ⟨_, .of (Same.upd1 hp _ _ ha)⟩, ?_⟩
    have xl := hls.len
    refine for_known (known_list K a xs) (fun i σ H' => (∃ (y z : Option V), σ = [some (.ref a), some (.int (n : Int)), some (.ref p), y, z]) ∧ Same H H' ∧ ∃ ys, H' p = some (.lst ys) ∧ LsX p H' ys (longerL (ls.take i) n))
      ⟨⟨_, _, rfl⟩, Same.upd1 hp, [], upd_same, LsX.nil⟩ (fun i σ H' _ h => .of (h.2.1 _ _ ha)) ?_ ?_
    · rintro i x σ H' Nx hN hx ⟨⟨y, z, rfl⟩, sm, ys, hpy, lsx⟩
      obtain ⟨a1, l, el, rfl, h1⟩ := hls.get hx
      have hlm := List.mem_of_getElem? el
      obtain ⟨l100, lo100⟩ := hb l hlm
      have h1' := sm _ _ h1
      have hap : a1 ≠ p := fun z => by rw [z, hp] at h1; cases h1
      have elong : longerL (ls.take (i + 1)) n = longerL (ls.take i) n ++ longer1 l n := by
        unfold longerL
        rw [List.take_succ_eq_append_getElem (List.getElem?_eq_some_iff.mp el).1, (List.getElem?_eq_some_iff.mp el).2, List.flatMap_append]
        simp
      refine gName_nx ?_
      dsimp only
      refine tSeq_abs (fun σ' H'' => σ' = [some (.ref a), some (.int (n : Int)), some (.ref p), some (.ref a1), some (.int (leastOf l : Int))] ∧ Same H' H'') ?cont fun N hN' => ?main
      case main =>
        refine ⟨_, rfl, by show 0 ≤ sizeLine; decide, fun e1 he1 => ?_⟩
        have t1 : Same H' (upd H' e1 (.lst [])) := Same.upd1 he1
        refine ⟨intsD l, .list [], rep_ivs (t1 _ _ h1'), ⟨e1, [], rfl, .of upd_same, rfl⟩, shaped_ints _, rfl, _, rfl, ?_⟩
        cases l with
        | nil => exact iteF (hN' _ _ ⟨rfl, t1⟩)
        | cons x0 l0 =>
          obtain ⟨r, t, er⟩ : ∃ r t, x0 :: l0 = r ++ [t] := by
            rcases List.eq_nil_or_concat (x0 :: l0) with z | ⟨r, t, z⟩
            · cases z
            · exact ⟨r, t, by rw [z, List.concat_eq_append]⟩
          refine iteT ⟨_, rfl, _, rfl, a1, _, -1, .int (t : Int), rfl, rfl, .of (t1 _ _ h1'), by rw [er]; unfold ivs; rw [List.map_append]; exact atI_last _ _, _, _, rfl, rfl, hN' _ _ ⟨?_, t1⟩⟩
          have : leastOf (x0 :: l0) = t + 1 := by rw [er]; unfold leastOf; rw [List.getLast?_append]; rfl
          rw [this]; rfl
      case cont =>
        rintro σ' H2 ⟨rfl, s2⟩
        have h2 := s2 _ _ h1'
        have hp2 := s2 _ _ hpy
        have lsx2 := lsx.same s2
        have sm2 := sm.trans s2
        refine ⟨_, rfl, .inl ⟨rfl, _, .of hp2⟩, _, rfl, _, rfl, _, _, rfl, ⟨by omega, by omega, by omega, by omega⟩, ?_⟩
        have enn : ((n : Int) - (leastOf l : Int)).toNat = n - leastOf l := by omega
        refine comp_known0 (known_range (leastOf l : Int) _) [some (.ref a1)] 1 (by rw [List.length_map, List.length_range, enn]; omega) (fun j acc H' => Same H2 H' ∧ acc.length = j ∧ LsX p H' acc ((longer1 l n).take j))
          ⟨Same.refl _, rfl, LsX.nil⟩ (fun j acc H' _ h => ⟨trivial, Nat.le_of_eq h.2.1⟩) ?_ ?_
        · rintro j y acc H3 ys' Nx2 hN2 hx2 hy ⟨sm3, hal, ls3⟩
          obtain ⟨y', rfl⟩ := ys1 hy
          rw [enn, List.getElem?_map] at hx2
          have hj : j < n - leastOf l := by
            cases ej : (List.range (n - leastOf l))[j]? with
            | none => rw [ej] at hx2; cases hx2
            | some j' => have := (List.getElem?_eq_some_iff.mp ej).1; rw [List.length_range] at this; exact this
          rw [List.getElem?_range hj] at hx2
          have hy2 : y = .int ((leastOf l + j : Nat) : Int) := by
            have := (Option.some.inj hx2).symm
            rw [this]; rfl
          subst hy2
          have h3 := sm3 _ _ h2
          refine ⟨_, rfl, _, rfl, by show 1 ≤ sizeLine; decide, fun p1 hp1 => ?_⟩
          have t1 : Same H3 (upd H3 p1 (.lst [.int ((leastOf l + j : Nat) : Int)])) := Same.upd1 hp1
          refine ⟨a1, p1, _, _, rfl, rfl, t1 _ _ h3, upd_same, by rw [ivs_len, sizeLine_eq]; show _ + 1 ≤ 16777216; omega, fun p3 hp3 => hN2 _ _ [some (.int ((leastOf l + j : Nat) : Int))] rfl ⟨(sm3.trans t1).trans (Same.upd1 hp3), by rw [List.length_append, hal]; rfl, ?_⟩⟩
          have et : (longer1 l n).take (j + 1) = (longer1 l n).take j ++ [l ++ [leastOf l + j]] := by
            unfold longer1
            rw [← List.map_take, ← List.map_take, List.take_range, List.take_range, Nat.min_eq_left (by omega), Nat.min_eq_left (by omega), List.range_succ, List.map_append]; rfl
          rw [et]
          have hpp : p3 ≠ p := fun z => by
            have : (upd H3 p1 (.lst [.int ((leastOf l + j : Nat) : Int)])) p = some (.lst ys) := t1 _ _ (sm3 _ _ hp2)
            rw [z, this] at hp3; cases hp3
          refine (ls3.same (t1.trans (Same.upd1 hp3))).append (LsX.one hpp ?_)
          rw [upd_same]; unfold ivs; rw [List.map_append]; rfl
        · rintro acc H3 ⟨sm3, hal, ls3⟩ D hD
          rw [List.length_map, List.length_range, enn] at hal ls3
          have et : (longer1 l n).take (n - leastOf l) = longer1 l n := List.take_of_length_le (by unfold longer1; rw [List.length_map, List.length_range]; exact Nat.le_refl _)
          rw [et] at ls3
          have t1 : Same H3 (upd H3 D (.lst acc)) := Same.upd1 hD
          have hp3 := t1 _ _ (sm3 _ _ hp2)
          have b1 := longerL_len n (ls.take i)
          have b2 := lsx.len
          have b3 : (ls.take i).length ≤ 1000 := by rw [List.length_take]; omega
          have b4 : (ls.take i).length * n ≤ 1000 * 8 := Nat.mul_le_mul b3 hn8
          refine ⟨p, D, ys, acc, rfl, rfl, hp3, upd_same, by rw [sizeLine_eq]; omega, hN _ _ ⟨⟨_, _, rfl⟩, ((sm2.trans sm3).trans t1).upd_new hp, ys ++ acc, upd_same, ?_⟩⟩
          rw [elong]
          exact ((lsx2.same (sm3.trans t1)).append (ls3.same t1)).upd
    · rintro σ H' ⟨⟨y, z, rfl⟩, sm, ys, hpy, lsx⟩
      rw [xl, List.take_length] at lsx
      exact ⟨_, rfl, k p ys H' sm hpy lsx.ls⟩
end
end Kn
end
section
set_option Elab.async false
set_option linter.all false
set_option maxRecDepth 100000
set_option maxHeartbeats 1000000
namespace Kn
open PySem L2
def lev (n : Nat) : Nat → List (List Nat)
  | 0 => [[]]
  | k + 1 => longerL (lev n k) n
def neededL (rows : List (List Nat)) (n : Nat) : Option (List Nat) := ((List.range n).flatMap fun k => lev n (k + 1)).find? (aloneM rows)
theorem least_snoc (l : List Nat) (x : Nat) : leastOf (l ++ [x]) = x + 1 := by unfold leastOf; rw [List.getLast?_append]; rfl
theorem lev_mem {n : Nat} : ∀ {k : Nat} {l : List Nat}, l ∈ lev n k → l.length = k ∧ k ≤ leastOf l ∧ leastOf l ≤ n
  | 0, l, h => by
    have : l = [] := by simpa [lev] using h
    subst this
    exact ⟨rfl, Nat.le_refl _, Nat.zero_le _⟩
  | k + 1, l, h => by
    obtain ⟨m, hm, hl⟩ := List.mem_flatMap.mp (show l ∈ (lev n k).flatMap _ from h)
    obtain ⟨j, hj, rfl⟩ := List.mem_map.mp hl
    have hj' := List.mem_range.mp hj
    obtain ⟨e1, e2, e3⟩ := lev_mem hm
    refine ⟨by rw [List.length_append, e1]; rfl, ?_, ?_⟩
    · rw [least_snoc]; omega
    · rw [least_snoc]; omega
theorem lev_le {n k : Nat} {l : List Nat} (h : l ∈ lev n k) : k ≤ n := by obtain ⟨_, a, b⟩ := lev_mem h; omega
theorem lev_len (n : Nat) : ∀ k, (lev n k).length ≤ n ^ k
  | 0 => by simp [lev]
  | k + 1 => by
    have := longerL_len n (lev n k)
    have ih := lev_len n k
    show (longerL (lev n k) n).length ≤ n ^ k * n
    exact Nat.le_trans this (Nat.mul_le_mul_right n ih)
theorem lev_nil {n k : Nat} (h : lev n k = []) : ∀ j, lev n (k + j) = []
  | 0 => h
  | j + 1 => by
    show longerL (lev n (k + j)) n = []
    rw [lev_nil h j]; rfl
theorem find_at {α : Type} {p : α → Bool} {l : List α} {i : Nat} {x : α} (e : l[i]? = some x) (hx : p x = true) (h : ∀ y ∈ l.take i, p y = false) : l.find? p = some x := by
  have hi := (List.getElem?_eq_some_iff.mp e).1
  have hd : l = l.take i ++ x :: l.drop (i + 1) := by
    have e1 : l.take (i + 1) = l.take i ++ [x] := by rw [List.take_succ_eq_append_getElem hi, (List.getElem?_eq_some_iff.mp e).2]
    have := (List.take_append_drop (i + 1) l).symm
    rw [e1] at this
    simpa using this
  rw [hd, List.find?_append]
  have n1 : (l.take i).find? p = none := List.find?_eq_none.mpr fun y hy => by rw [h y hy]; exact Bool.false_ne_true
  rw [n1]
  simp [List.find?_cons, hx]
theorem find_flat {α : Type} {p : α → Bool} {f : Nat → List α} {n k : Nat} {x : α} (hk : k < n) (h : ∀ j, j < k → (f j).find? p = none) (hx : (f k).find? p = some x) : ((List.range n).flatMap f).find? p = some x := by
  have e : List.range n = List.range k ++ k :: (List.range (n - k - 1)).map (fun j => k + 1 + j) := by
    have h1 : n = k + (n - k) := by omega
    have h2 : n - k = (n - k - 1) + 1 := by omega
    rw [h1, List.range_add]
    congr 1
    have h3 : k + (n - k) - k - 1 = n - k - 1 := by omega
    rw [h3, h2, List.range_succ_eq_map, List.map_cons, List.map_map]
    congr 1
    have h4 : n - k - 1 + 1 - 1 = n - k - 1 := by omega
    rw [h4]
    refine List.map_congr_left fun a _ => ?_
    show k + (a + 1) = k + 1 + a
    omega
  rw [e, List.flatMap_append, List.find?_append]
  have n1 : ((List.range k).flatMap f).find? p = none := by
    refine List.find?_eq_none.mpr fun y hy => ?_
    obtain ⟨j, hj, hm⟩ := List.mem_flatMap.mp hy
    exact List.find?_eq_none.mp (h j (List.mem_range.mp hj)) y hm
  rw [n1, List.flatMap_cons, List.find?_append, hx]; rfl
section
variable {P : Program} {w : World} {K : PySem.W.Frag} {mg : Str → Option Value} {base : Heap}
theorem reps_ls {H : Hp} : ∀ {ls : List (List Nat)} {vs : List V}, LsAt H vs ls → Reps K H (ls.map intsD) vs
  | [], vs, h => by
    have : vs = [] := List.length_eq_zero_iff.mp h.len
    exact this
  | l :: ls, [], h => by have := h.len; simp at this
  | l :: ls, v :: vs, h => by
    obtain ⟨a, e, f⟩ := h.at_ 0 v l rfl rfl
    refine ⟨v, vs, rfl, by rw [e]; exact rep_ivs f, reps_ls ⟨by have := h.len; simpa using this, fun i u m h1 h2 => h.at_ (i + 1) u m (by simpa using h1) (by simpa using h2)⟩⟩
theorem shaped_ls (ls : List (List Nat)) : SeqAt.shaped (.list (ls.map intsD)) = true := by
  refine (shaped_list fun d hd => ?_).1
  obtain ⟨l, _, rfl⟩ := List.mem_map.mp hd
  unfold intsD
  have go : ∀ ns : List Int, PyData.depthAll (ns.map PyData.int) ≤ 1 := by
    intro ns
    induction ns with
    | nil => decide
    | cons n ns ih => rw [List.map_cons]; simp only [PyData.depthAll, PyData.depth]; omega
  have g := go (l.map fun (i : Nat) => (i : Int))
  simp only [PyData.canLay0, PyData.depth]
  exact ⟨lay_ints _, by omega⟩
def TellsN (H : Hp) (v : V) : Option (List Nat) → Prop
  | none => v = .non
  | some l => ∃ a, v = .ref a ∧ H a = some (.lst (ivs l))
def spNeeded : Sp := fun vs H Q _ => ∃ (b : Addr) (bk : List S) (o : Nat) (nm : S), vs = [.ref b, .int o, sv nm] ∧ H b = some (.tup (bkV bk)) ∧ Bk bk o ∧ isNm nm ∧ bk.length ≤ 4 ∧ ∀ v H', Same H H' → TellsN H' v (neededL (rowsP bk o nm) bk.length) → Q v H'
abbrev sNeeded : Stmt := top 39
theorem scNeeded : FnScope ["book", "order", "name", "by_step", "lists", "places"] ["book", "order", "name"] (defScope sNeeded) := ⟨rfl, rfl, rfl, by decide +kernel, rfl, by decide +kernel, by decide +kernel⟩
theorem ok_needed {f : Addr} {fd : FuncData} (F : Fun K "needed" "needed" sNeeded f fd) (B : Blt mg) (N : Needs P w K mg base) (cP : Cal P w K mg base 4 "places_by_step" ["book", "order", "name"] spPbs) (cA : Cal P w K mg base 2 "alone_make" ["by_step", "places"] spAlone) (cL : Cal P w K mg base 1 "longer_lists" ["lists", "many"] spLonger) :
    FnOk P w K mg base CX0 5 f fd ["book", "order", "name"] spNeeded := by
  refine F.ok scNeeded (fun vs H Q E h => ?_) (fun cdv A outer s H vs Q E hr h => ?_)
  · obtain ⟨b, bk, o, nm, rfl, _⟩ := h; rfl
  · obtain ⟨b, bk, o, nm, rfl, hb, hB, hn, h4, k⟩ := h
    have nd := scNeeded.nd
    have hu := hr.units
    have hr3 := hr.mono (j := 3) (by decide)
    have hr2 := hr.mono (j := 2) (by decide)
    have hr1 := hr.mono (j := 1) (by decide)
    refine ⟨_, pss_cons (ps_expr (pe_cal N.bk hr3 rfl (pa_cons (pv 0) pa_nil))) (pss_cons (ps_expr (pe_cal N.od hr3 rfl (pa_cons (pv 1) pa_nil))) (pss_cons (ps_expr (pe_cal N.nm hr2 rfl (pa_cons (pv 2) pa_nil)))
      (pss_cons (ps_set (i := 3) nd rfl (Or.inl rfl) (pe_cal cP hr rfl (pa_cons (pv 0) (pa_cons (pv 1) (pa_cons (pv 2) pa_nil)))))
      (pss_cons (ps_set (i := 4) nd rfl (Or.inl rfl) (pe_lst (pa_cons (pe_lst pa_nil) pa_nil)))
      (pss_cons (ps_while PassesOwn.never (pt_cmpR (op_neD hu) (pv 4) (pe_lst pa_nil) (nomark _))
        (pss_cons (ps_set (i := 4) nd rfl (Or.inl rfl) (pe_cal cL hr1 rfl (pa_cons (pv 4) (pa_cons (pe_callB call_len_seq (by rfl) B.len PySem.boot_len (pa_cons (pv 0) pa_nil)) pa_nil))))
        (pss_one (ps_for PassesOwn.never rfl (pi_list (pv 4)) (pg_name (i := 5) nd rfl (Or.inl rfl))
          (pss_one (ps_if (pt_val (pe_cal cA hr2 rfl (pa_cons (pv 3) (pa_cons (pv 5) pa_nil)))) (pss_one (ps_ret (pv 5))) pss_nil))))))
      (pss_one (ps_ret pe_non))))))), ?_⟩
    refine ⟨_, rfl, b, bk, rfl, hb, hB.toisBk, fun H1 s1 => ?_⟩
    refine ⟨_, rfl, o, rfl, hB.o1, hB.o3, ?_⟩
    refine ⟨_, rfl, nm, rfl, hn, fun H2 s2 => ?_⟩
    have s02 := s1.trans s2
    refine ⟨_, rfl, _, rfl, _, rfl, b, bk, o, nm, rfl, s02 _ _ hb, hB, hn, fun lr xr H3 s3 hlr lsr => ?_⟩
    have s03 := s02.trans s3
    have rl : (rowsP bk o nm).length ≤ 100 := by
      unfold rowsP pairs1
      rw [List.length_map, List.length_map, List.length_range]
      have := hn.2.1; omega
    generalize hrows : rowsP bk o nm = rows at k lsr rl
    have ebk : (bkV bk).length = bk.length := List.length_map ..
    obtain ⟨n, en⟩ : ∃ n, n = bk.length := ⟨_, rfl⟩
    rw [← en] at k h4 ebk
    refine ⟨by show 0 ≤ sizeLine; decide, fun p0 hp0 => ?_⟩
    have t0 : Same H3 (upd H3 p0 (.lst [])) := Same.upd1 hp0
    refine ⟨by show 1 ≤ sizeLine; decide, fun p1 hp1 => ?_⟩
    have t1 := t0.trans (Same.upd1 (o := .lst [.ref p0]) hp1)
    have ls0 : LsAt (upd (upd H3 p0 (.lst [])) p1 (.lst [.ref p0])) [.ref p0] (lev n 0) := LsAt.snoc LsAt.nil (Same.upd1 hp1 _ _ upd_same)
    have hp11 : (upd (upd H3 p0 (.lst [])) p1 (.lst [.ref p0])) p1 = some (.lst [.ref p0]) := upd_same
    have hlr1 := t1 _ _ hlr
    have lsr1 := lsr.same t1
    have s04 := s03.trans t1
    generalize upd (upd H3 p0 (.lst [])) p1 (.lst [.ref p0]) = H4 at t1 ls0 hp11 hlr1 lsr1 s04
    clear t1 t0 hp0 hp1 lsr hlr s03 s3 s02 s2 s1 H1 H2 H3
    refine ⟨fun m σ H' => ∃ (j : Nat) (lk : Addr) (xk : List V) (y : Option V), m = n + 2 - j ∧ j ≤ n + 1 ∧ σ = [some (.ref b), some (.int (o : Int)), some (sv nm), some (.ref lr), some (.ref lk), y] ∧ Same H4 H' ∧ H' lk = some (.lst xk) ∧ LsAt H' xk (lev n j) ∧ ∀ i, i < j → (lev n (i + 1)).find? (aloneM rows) = none,
      ⟨n + 2, 0, p1, _, _, rfl, by omega, rfl, Same.refl _, hp11, ls0, fun i hi => absurd hi (Nat.not_lt_zero _)⟩, ?_⟩
    rintro m σ H' ⟨j, lk, xk, y, rfl, hj, rfl, sm, hlk, lsk, hno⟩
    refine ⟨_, rfl, by show 0 ≤ sizeLine; decide, fun e1 he1 => ?_⟩
    have t1 : Same H' (upd H' e1 (.lst [])) := Same.upd1 he1
    refine ⟨.list ((lev n j).map intsD), .list [], ⟨lk, _, rfl, .of (t1 _ _ hlk), reps_ls (lsk.same t1)⟩, ⟨e1, [], rfl, .of upd_same, rfl⟩, shaped_ls _, rfl, _, rfl, ?_⟩
    rw [eqv_niL, List.isEmpty_map]
    have hlk1 := t1 _ _ hlk
    have lsk1 := lsk.same t1
    have sm1 := sm.trans t1
    generalize upd H' e1 (.lst []) = HA at hlk1 lsk1 sm1
    clear t1 he1 hlk lsk sm H'
    cases hem : (lev n j).isEmpty with
    | true =>
      refine iteF ?_
      refine k .non HA (s04.trans sm1) ?_
      have hnil : lev n j = [] := List.isEmpty_iff.mp hem
      have : neededL rows n = none := by
        unfold neededL
        refine List.find?_eq_none.mpr fun x hx => ?_
        obtain ⟨i, _, hm⟩ := List.mem_flatMap.mp hx
        by_cases hi : i < j
        · exact List.find?_eq_none.mp (hno i hi) x hm
        · have e : i + 1 = j + (i + 1 - j) := by omega
          rw [e, lev_nil hnil] at hm; cases hm
      rw [this]; exact rfl
    | false =>
      obtain ⟨l0, hl0⟩ : ∃ l, l ∈ lev n j := by
        cases e : lev n j with
        | nil => rw [e] at hem; cases hem
        | cons x r => exact ⟨x, List.mem_cons_self ..⟩
      have hjn : j ≤ n := lev_le hl0
      refine iteT ⟨fun σ' H'' => ∃ (lk : Addr) (xk : List V) (y : Option V), σ' = [some (.ref b), some (.int (o : Int)), some (sv nm), some (.ref lr), some (.ref lk), y] ∧ Same H4 H'' ∧ H'' lk = some (.lst xk) ∧ LsAt H'' xk (lev n (j + 1)) ∧ ∀ i, i < j + 1 → (lev n (i + 1)).find? (aloneM rows) = none, ?_, ?_⟩
      · rintro σ' H'' ⟨lk', xk', y', rfl, sm', h1, h2, h3⟩
        exact ⟨n + 2 - (j + 1), by omega, j + 1, lk', xk', y', rfl, by omega, rfl, sm', h1, h2, h3⟩
      · have lim : (lev n j).length ≤ 1000 := by
          have h1 := lev_len n j
          have h2 : n ^ j ≤ 4 ^ j := Nat.pow_le_pow_left h4 _
          have h3 : (4 : Nat) ^ j ≤ 4 ^ 4 := Nat.pow_le_pow_right (by decide) (by omega)
          have h5 : (4 : Nat) ^ 4 = 256 := by decide
          omega
        refine ⟨_, rfl, _, rfl, b, bkV bk, rfl, .inr (.of (s04.trans sm1 _ _ hb)), lk, xk, lev n j, n, by rw [ebk]; rfl, hlk1, lsk1, lim, by omega, fun l hl => ?_, fun p2 ys HB sB hp2 ls2 => ?_⟩
        · obtain ⟨c1, c2, c3⟩ := lev_mem hl
          exact ⟨by omega, by omega⟩
        have sm2 := sm1.trans sB
        refine ⟨_, rfl, p2, rfl, ⟨_, .of hp2⟩, ?_⟩
        have yl := ls2.len
        refine for_known (known_list K p2 ys) (fun i σ H' => (∃ y : Option V, σ = [some (.ref b), some (.int (o : Int)), some (sv nm), some (.ref lr), some (.ref p2), y]) ∧ Same HB H' ∧ ∀ l ∈ (lev n (j + 1)).take i, aloneM rows l = false)
          ⟨⟨_, rfl⟩, Same.refl _, fun l hl => by cases hl⟩ (fun i σ H' _ h => .of (h.2.1 _ _ hp2)) ?_ ?_
        · rintro i x σ H' Nx hN hx ⟨⟨y1, rfl⟩, sm, hal⟩
          obtain ⟨a1, l, el0, rfl, h1⟩ := ls2.get hx
          have el : (lev n (j + 1))[i]? = some l := el0
          have hlm : l ∈ lev n (j + 1) := List.mem_of_getElem? el
          obtain ⟨c1, _, _⟩ := lev_mem hlm
          have hjn1 := lev_le hlm
          refine ⟨_, rfl, _, rfl, lr, a1, xr, rows, l, rfl, (sm2.trans sm) _ _ hlr1, lsr1.same (sm2.trans sm), rl, sm _ _ h1, by omega, fun HC sC => ⟨_, rfl, ?_⟩⟩
          cases ea : aloneM rows l with
          | true =>
            refine iteT ⟨_, rfl, ?_⟩
            refine k _ HC (((s04.trans sm2).trans sm).trans sC) ?_
            have : neededL rows n = some l := find_flat (k := j) (by omega) (fun i hi => hno i hi) (find_at el ea hal)
            rw [this]
            exact ⟨a1, rfl, sC _ _ (sm _ _ h1)⟩
          | false =>
            refine iteF (hN _ _ ⟨⟨_, rfl⟩, sm.trans sC, fun l' hl' => ?_⟩)
            rw [List.take_succ_eq_append_getElem (List.getElem?_eq_some_iff.mp el).1, (List.getElem?_eq_some_iff.mp el).2] at hl'
            rcases List.mem_append.mp hl' with z | z
            · exact hal l' z
            · have : l' = l := by simpa using z
              rw [this]; exact ea
        · rintro σ H' ⟨⟨y1, rfl⟩, sm, hal⟩
          have yl' : ys.length = (lev n (j + 1)).length := yl
          rw [yl', List.take_length] at hal
          refine ⟨p2, ys, _, rfl, sm2.trans sm, sm _ _ hp2, ls2.same sm, fun i hi => ?_⟩
          by_cases hij : i < j
          · exact hno i hij
          · have : i = j := by omega
            subst this
            exact List.find?_eq_none.mpr fun x hx => by rw [hal x hx]; exact Bool.false_ne_true
end
end Kn
end
section
set_option Elab.async false
set_option linter.all false
set_option maxRecDepth 100000
set_option maxHeartbeats 1000000
namespace Kn
open PySem L2
def subs : Nat → List (List Nat)
  | 0 => [[]]
  | k + 1 => subs k ++ (subs k).map fun l => l ++ [k]
theorem rising_iff {l : List Nat} : risingL l = true ↔ l.Pairwise (· < ·) := by
  unfold risingL
  induction l with
  | nil => simp
  | cons x l ih =>
    cases l with
    | nil => simp
    | cons y r =>
      have e : (x :: y :: r).zip ((x :: y :: r).drop 1) = (x, y) :: (y :: r).zip ((y :: r).drop 1) := rfl
      rw [e, List.all_cons, Bool.and_eq_true, ih]
      constructor
      · rintro ⟨h1, h2⟩
        have hxy : x < y := of_decide_eq_true h1
        refine List.pairwise_cons.mpr ⟨fun z hz => ?_, h2⟩
        rcases List.mem_cons.mp hz with e | e
        · rw [e]; exact hxy
        · exact Nat.lt_trans hxy ((List.pairwise_cons.mp h2).1 z e)
      · intro h
        obtain ⟨h1, h2⟩ := List.pairwise_cons.mp h
        exact ⟨decide_eq_true (h1 y (List.mem_cons_self ..)), h2⟩
theorem isPl_iff {n : Nat} {l : List Nat} : isPlL n l = true ↔ (∀ p ∈ l, p < n) ∧ l.Pairwise (· < ·) := by
  unfold isPlL
  rw [Bool.and_eq_true, rising_iff, List.all_eq_true]
  constructor
  · rintro ⟨h1, h2⟩; exact ⟨fun p hp => of_decide_eq_true (h1 p hp), h2⟩
  · rintro ⟨h1, h2⟩; exact ⟨fun p hp => decide_eq_true (h1 p hp), h2⟩
theorem subs_mem : ∀ {n : Nat} {l : List Nat}, l ∈ subs n ↔ (∀ p ∈ l, p < n) ∧ l.Pairwise (· < ·)
  | 0, l => by
    show l ∈ [[]] ↔ _
    constructor
    · intro h
      have : l = [] := by simpa using h
      subst this; exact ⟨fun p hp => (by cases hp), List.Pairwise.nil⟩
    · rintro ⟨h, _⟩
      cases l with
      | nil => simp
      | cons x r => exact absurd (h x (List.mem_cons_self ..)) (Nat.not_lt_zero _)
  | n + 1, l => by
    show l ∈ subs n ++ (subs n).map (fun l => l ++ [n]) ↔ _
    rw [List.mem_append, subs_mem, List.mem_map]
    constructor
    · rintro (⟨h1, h2⟩ | ⟨m, hm, rfl⟩)
      · exact ⟨fun p hp => Nat.lt_succ_of_lt (h1 p hp), h2⟩
      · obtain ⟨h1, h2⟩ := subs_mem.mp hm
        refine ⟨fun p hp => ?_, List.pairwise_append.mpr ⟨h2, List.pairwise_singleton _ _, fun a ha b hb => ?_⟩⟩
        · rcases List.mem_append.mp hp with z | z
          · exact Nat.lt_succ_of_lt (h1 p z)
          · have : p = n := by simpa using z
            omega
        · have : b = n := by simpa using hb
          rw [this]; exact h1 a ha
    · rintro ⟨h1, h2⟩
      rcases List.eq_nil_or_concat l with rfl | ⟨m, x, rfl⟩
      · exact .inl ⟨fun p hp => (by cases hp), List.Pairwise.nil⟩
      · rw [List.concat_eq_append] at *
        obtain ⟨g1, _, g3⟩ := List.pairwise_append.mp h2
        have hx := h1 x (by simp)
        have below : ∀ p ∈ m, p < x := fun p hp => g3 p hp x (by simp)
        by_cases e : x = n
        · subst e
          exact .inr ⟨m, subs_mem.mpr ⟨below, g1⟩, rfl⟩
        · refine .inl ⟨fun p hp => ?_, h2⟩
          rcases List.mem_append.mp hp with z | z
          · have := below p z; omega
          · have : p = x := by simpa using z
            omega
theorem anyHas_iff {hv l : List Nat} : anyHas hv l = true ↔ ∃ p ∈ l, p ∈ hv := by
  unfold anyHas
  rw [List.any_eq_true]
  constructor
  · rintro ⟨p, h1, h2⟩; exact ⟨p, h1, of_decide_eq_true h2⟩
  · rintro ⟨p, h1, h2⟩; exact ⟨p, h1, decide_eq_true h2⟩
theorem alone_iff {rows : List (List Nat)} {l : List Nat} : aloneM rows l = true ↔ ∀ hv ∈ rows, ∃ p ∈ l, p ∈ hv := by
  unfold aloneM
  rw [List.all_eq_true]
  constructor
  · intro h hv hm; exact anyHas_iff.mp (h hv hm)
  · intro h hv hm; exact anyHas_iff.mpr (h hv hm)
theorem alone_mono {rows : List (List Nat)} {l m : List Nat} (h : ∀ p ∈ l, p ∈ m) (a : aloneM rows l = true) : aloneM rows m = true :=
  alone_iff.mpr fun hv hm => let ⟨p, h1, h2⟩ := alone_iff.mp a hv hm; ⟨p, h p h1, h2⟩
theorem fewer_mem {l m : List Nat} : m ∈ fewerL l ↔ ∃ i, i < l.length ∧ m = l.take i ++ l.drop (i + 1) := by
  unfold fewerL
  rw [List.mem_map]
  constructor
  · rintro ⟨i, h, e⟩; exact ⟨i, List.mem_range.mp h, e.symm⟩
  · rintro ⟨i, h, e⟩; exact ⟨i, List.mem_range.mpr h, e.symm⟩
theorem split_at {l : List Nat} {i : Nat} (h : i < l.length) : l = l.take i ++ l[i] :: l.drop (i + 1) := by
  have e1 : l.take (i + 1) = l.take i ++ [l[i]] := List.take_succ_eq_append_getElem h
  have := (List.take_append_drop (i + 1) l).symm
  rw [e1] at this
  simpa using this
theorem fewer_sub {l m : List Nat} (h : m ∈ fewerL l) : m.Sublist l ∧ m.length + 1 = l.length := by
  obtain ⟨i, hi, rfl⟩ := fewer_mem.mp h
  refine ⟨?_, by rw [List.length_append, List.length_take, List.length_drop]; omega⟩
  have := split_at hi
  conv => rhs; rw [this]
  exact List.Sublist.append (List.Sublist.refl _) (List.sublist_cons_self _ _)
theorem fewer_drop {l : List Nat} (hr : l.Pairwise (· < ·)) {x : Nat} (hx : x ∈ l) : ∃ m ∈ fewerL l, ∀ p ∈ l, p ≠ x → p ∈ m := by
  obtain ⟨i, hi, e⟩ := List.getElem_of_mem hx
  refine ⟨_, fewer_mem.mpr ⟨i, hi, rfl⟩, fun p hp hne => ?_⟩
  rw [split_at hi] at hp
  rcases List.mem_append.mp hp with z | z
  · exact List.mem_append_left _ z
  · rcases List.mem_cons.mp z with y | y
    · exact absurd (y.trans e) hne
    · exact List.mem_append_right _ y
theorem shows_iff {rows : List (List Nat)} {n : Nat} {l : List Nat} : showsL rows n l = true ↔ l ∈ subs n ∧ aloneM rows l = true ∧ ∀ m ∈ fewerL l, aloneM rows m = false := by
  unfold showsL
  rw [Bool.and_eq_true, Bool.and_eq_true, isPl_iff, ← subs_mem]
  constructor
  · rintro ⟨⟨h1, h2⟩, h3⟩
    refine ⟨h1, h2, fun m hm => ?_⟩
    cases e : aloneM rows m with
    | false => rfl
    | true =>
      have : (fewerL l).any (fun m => aloneM rows m) = true := List.any_eq_true.mpr ⟨m, hm, e⟩
      rw [this] at h3; cases h3
  · rintro ⟨h1, h2, h3⟩
    refine ⟨⟨h1, h2⟩, ?_⟩
    have : (fewerL l).any (fun m => aloneM rows m) = false := List.any_eq_false.mpr fun m hm => by rw [h3 m hm]; exact Bool.false_ne_true
    rw [this]; rfl
theorem has_least {rows : List (List Nat)} {n : Nat} : ∀ (k : Nat) {l : List Nat}, l.length = k → l ∈ subs n → aloneM rows l = true → ∃ m, showsL rows n m = true ∧ m.Sublist l
  | 0, l, hl, hs, ha => by
    have : l = [] := List.length_eq_zero_iff.mp hl
    subst this
    exact ⟨[], shows_iff.mpr ⟨hs, ha, fun m hm => by
      obtain ⟨i, hi, _⟩ := fewer_mem.mp hm
      exact absurd hi (Nat.not_lt_zero _)⟩, List.Sublist.refl _⟩
  | k + 1, l, hl, hs, ha => by
    by_cases h : ∃ m ∈ fewerL l, aloneM rows m = true
    · obtain ⟨m, hm, am⟩ := h
      obtain ⟨s1, s2⟩ := fewer_sub hm
      obtain ⟨h1, h2⟩ := subs_mem.mp hs
      obtain ⟨m', h3, h4⟩ := has_least k (l := m) (by omega) (subs_mem.mpr ⟨fun p hp => h1 p (s1.subset hp), h2.sublist s1⟩) am
      exact ⟨m', h3, h4.trans s1⟩
    · refine ⟨l, shows_iff.mpr ⟨hs, ha, fun m hm => ?_⟩, List.Sublist.refl _⟩
      cases e : aloneM rows m with
      | false => rfl
      | true => exact absurd ⟨m, hm, e⟩ h
theorem rising_ext : ∀ {l m : List Nat}, l.Pairwise (· < ·) → m.Pairwise (· < ·) → (∀ p, p ∈ l ↔ p ∈ m) → l = m := fun h1 h2 h => nat_sorted_eq h1 h2 h
theorem least_anti {rows : List (List Nat)} {n : Nat} {l m : List Nat} (hl : showsL rows n l = true) (hm : showsL rows n m = true) (hne : m ≠ l) : ∃ p ∈ m, p ∉ l := by
  obtain ⟨l1, l2, l3⟩ := shows_iff.mp hl
  obtain ⟨m1, m2, m3⟩ := shows_iff.mp hm
  obtain ⟨a1, a2⟩ := subs_mem.mp l1
  obtain ⟨b1, b2⟩ := subs_mem.mp m1
  refine Classical.byContradiction fun h => ?_
  have hsub : ∀ p ∈ m, p ∈ l := fun p hp => Classical.byContradiction fun z => h ⟨p, hp, z⟩
  by_cases hx : ∃ x ∈ l, x ∉ m
  · obtain ⟨x, hxl, hxm⟩ := hx
    obtain ⟨k, hk, hkk⟩ := fewer_drop a2 hxl
    have := alone_mono (fun p hp => hkk p (hsub p hp) (fun z => hxm (by rw [← z]; exact hp))) m2
    rw [l3 k hk] at this; cases this
  · exact hne (rising_ext b2 a2 fun p => ⟨hsub p, fun hp => Classical.byContradiction fun z => hx ⟨p, hp, z⟩⟩)
theorem plW_mem {bk : List S} {o : Nat} {q : S × S} {p : Nat} : p ∈ plW bk o q ↔ ∃ t, bk[p]? = some t ∧ q ∈ pairs1 o t := by
  unfold plW
  rw [List.mem_filter, List.mem_range]
  constructor
  · rintro ⟨h1, h2⟩
    have e : bk[p]? = some bk[p] := List.getElem?_eq_getElem h1
    rw [e] at h2
    exact ⟨bk[p], e, of_decide_eq_true h2⟩
  · rintro ⟨t, e, h⟩
    refine ⟨(List.getElem?_eq_some_iff.mp e).1, ?_⟩
    rw [e]; exact decide_eq_true h
theorem rows_mem {bk : List S} {o : Nat} {nm : S} {hv : List Nat} : hv ∈ rowsP bk o nm ↔ ∃ q ∈ pairs1 o nm, hv = plW bk o q := by
  unfold rowsP
  rw [List.mem_map]
  constructor
  · rintro ⟨q, h, e⟩; exact ⟨q, h, e.symm⟩
  · rintro ⟨q, h, e⟩; exact ⟨q, h, e.symm⟩
theorem alone_pairs {bk : List S} {o : Nat} {nm : S} {l : List Nat} : aloneM (rowsP bk o nm) l = true ↔ ∀ q ∈ pairs1 o nm, ∃ p ∈ l, ∃ t, bk[p]? = some t ∧ q ∈ pairs1 o t := by
  rw [alone_iff]
  constructor
  · intro h q hq
    obtain ⟨p, h1, h2⟩ := h _ (rows_mem.mpr ⟨q, hq, rfl⟩)
    exact ⟨p, h1, plW_mem.mp h2⟩
  · intro h hv hm
    obtain ⟨q, hq, rfl⟩ := rows_mem.mp hm
    obtain ⟨p, h1, h2⟩ := h q hq
    exact ⟨p, h1, plW_mem.mpr h2⟩
end Kn
end
section
set_option Elab.async false
set_option linter.all false
set_option maxRecDepth 100000
set_option maxHeartbeats 1000000
namespace Kn
open PySem L2
theorem share_pos_iff {ps : List (S × S)} {o : Nat} {nm : S} : 0 < (shareOf ps o nm).1 ↔ ∀ q ∈ pairs1 o nm, q ∈ ps := by
  constructor
  · intro h q hq
    refine Classical.byContradiction fun hn => ?_
    have e : shareOf ps o nm = (0, 1) := foldG_zeroI ps (pairs1 o nm) (1, 1) fq11 ⟨q, hq, by rw [part_none hn]⟩
    rw [e] at h; cases h
  · intro h; exact foldG_pos ps (pairs1 o nm) (1, 1) fq11 (by decide) h
theorem pairsB_at {o : Nat} {bk : List S} {q : S × S} : q ∈ pairsB o bk ↔ ∃ (p : Nat) (t : S), bk[p]? = some t ∧ q ∈ pairs1 o t := by
  unfold pairsB
  rw [List.mem_flatMap]
  constructor
  · rintro ⟨t, ht, hq⟩
    obtain ⟨p, hp, e⟩ := List.getElem_of_mem ht
    exact ⟨p, t, by rw [List.getElem?_eq_getElem hp, e], hq⟩
  · rintro ⟨p, t, e, hq⟩
    exact ⟨t, List.mem_of_getElem? e, hq⟩
theorem range_subs (n : Nat) : List.range n ∈ subs n := subs_mem.mpr ⟨fun p hp => List.mem_range.mp hp, List.pairwise_lt_range⟩
theorem good_iff {bk : List S} {o : Nat} {nm : S} : (∃ l ∈ subs bk.length, showsL (rowsP bk o nm) bk.length l = true) ↔ 0 < (shareOf (pairsB o bk) o nm).1 := by
  rw [share_pos_iff]
  constructor
  · rintro ⟨l, _, h⟩ q hq
    obtain ⟨_, ha, _⟩ := shows_iff.mp h
    obtain ⟨p, _, t, e, hm⟩ := alone_pairs.mp ha q hq
    exact pairsB_at.mpr ⟨p, t, e, hm⟩
  · intro h
    have ha : aloneM (rowsP bk o nm) (List.range bk.length) = true := alone_pairs.mpr fun q hq => by
      obtain ⟨p, t, e, hm⟩ := pairsB_at.mp (h q hq)
      exact ⟨p, List.mem_range.mpr (List.getElem?_eq_some_iff.mp e).1, t, e, hm⟩
    obtain ⟨m, hm, _⟩ := has_least _ rfl (range_subs _) ha
    exact ⟨m, (shows_iff.mp hm).1, hm⟩
theorem sub_makes {bk sb : List S} {o : Nat} {nm : S} {l : List Nat} (h : aloneM (rowsP bk o nm) l = true) (hs : ∀ p ∈ l, ∀ t, bk[p]? = some t → t ∈ sb) : 0 < (shareOf (pairsB o sb) o nm).1 := by
  rw [share_pos_iff]
  intro q hq
  obtain ⟨p, hp, t, e, hm⟩ := alone_pairs.mp h q hq
  exact List.mem_flatMap.mpr ⟨t, hs p hp t e, hm⟩
theorem alone_nil {bk : List S} {o : Nat} {nm : S} : aloneM (rowsP bk o nm) [] = false := by
  cases e : aloneM (rowsP bk o nm) [] with
  | false => rfl
  | true =>
    obtain ⟨r, hr⟩ := pairs1_head o nm
    obtain ⟨p, hp, _⟩ := alone_pairs.mp e _ (by rw [hr]; exact List.mem_cons_self ..)
    cases hp
theorem shows_nil {bk : List S} {o : Nat} {nm : S} {n : Nat} : showsL (rowsP bk o nm) n [] = false := by
  unfold showsL; rw [alone_nil, Bool.and_false, Bool.false_and]
theorem shows_out {rows : List (List Nat)} {n : Nat} : showsL rows n [n] = false := by
  have : isPlL n [n] = false := by
    cases e : isPlL n [n] with
    | false => rfl
    | true => exact absurd ((isPl_iff.mp e).1 n (by simp)) (Nat.lt_irrefl _)
  unfold showsL; rw [this, Bool.false_and, Bool.false_and]
theorem shows_ne {bk : List S} {o : Nat} {nm : S} {n : Nat} {l : List Nat} (h : showsL (rowsP bk o nm) n l = true) : l ≠ [] := fun z => by rw [z, shows_nil] at h; cases h
theorem shows_turned {rows : List (List Nat)} {n : Nat} {l : List Nat} (hl : l ∈ subs n) (h1 : 1 < l.length) : showsL rows n l.reverse = false := by
  have : isPlL n l.reverse = false := by
    cases e : isPlL n l.reverse with
    | false => rfl
    | true =>
      have h2 := (isPl_iff.mp e).2
      have h3 := (subs_mem.mp hl).2
      match l, h1, h2, h3 with
      | x :: y :: r, _, h2, h3 =>
        have hxy := (List.pairwise_cons.mp h3).1 y (List.mem_cons_self ..)
        rw [List.pairwise_reverse] at h2
        have := (List.pairwise_cons.mp h2).1 y (List.mem_cons_self ..)
        omega
  unfold showsL; rw [this, Bool.false_and, Bool.false_and]
def turnL (n : Nat) (l : List Nat) : List Nat := l.reverse.map fun p => n - 1 - p
theorem rev_at {bk : List S} {p : Nat} (h : p < bk.length) : bk.reverse[bk.length - 1 - p]? = bk[p]? := by
  rw [List.getElem?_reverse (by omega)]
  congr 1
  omega
theorem alone_turn {bk : List S} {o : Nat} {nm : S} {l : List Nat} (h : ∀ p ∈ l, p < bk.length) : aloneM (rowsP bk.reverse o nm) (turnL bk.length l) = aloneM (rowsP bk o nm) l := by
  rw [Bool.eq_iff_iff, alone_pairs, alone_pairs]
  constructor
  · intro hh q hq
    obtain ⟨p', hp', t, e, hm⟩ := hh q hq
    obtain ⟨p, hp, rfl⟩ := List.mem_map.mp hp'
    have hpl := List.mem_reverse.mp hp
    rw [rev_at (h p hpl)] at e
    exact ⟨p, hpl, t, e, hm⟩
  · intro hh q hq
    obtain ⟨p, hp, t, e, hm⟩ := hh q hq
    exact ⟨bk.length - 1 - p, List.mem_map.mpr ⟨p, List.mem_reverse.mpr hp, rfl⟩, t, by rw [rev_at (h p hp)]; exact e, hm⟩
theorem turn_subs {n : Nat} {l : List Nat} (hl : l ∈ subs n) : turnL n l ∈ subs n := by
  obtain ⟨h1, h2⟩ := subs_mem.mp hl
  refine subs_mem.mpr ⟨fun p hp => ?_, ?_⟩
  · obtain ⟨q, hq, rfl⟩ := List.mem_map.mp hp
    have := h1 q (List.mem_reverse.mp hq)
    omega
  · unfold turnL
    rw [List.pairwise_map, List.pairwise_reverse]
    exact h2.imp_of_mem fun {a b} ha hb hab => by
      have := h1 a ha
      have := h1 b hb
      omega
theorem fewer_turn {n : Nat} {l m' : List Nat} (h : m' ∈ fewerL (turnL n l)) : ∃ m ∈ fewerL l, m' = turnL n m := by
  obtain ⟨i, hi, rfl⟩ := fewer_mem.mp h
  unfold turnL at hi ⊢
  rw [List.length_map, List.length_reverse] at hi
  refine ⟨_, fewer_mem.mpr ⟨l.length - 1 - i, by omega, rfl⟩, ?_⟩
  have e1 : l.length - 1 - i + 1 = l.length - i := by omega
  have e2 : l.length - (i + 1) = l.length - 1 - i := by omega
  rw [← List.map_take, ← List.map_drop, ← List.map_append, List.take_reverse, List.drop_reverse, List.reverse_append, e1, e2]
theorem shows_turn {bk : List S} {o : Nat} {nm : S} {l : List Nat} (h : showsL (rowsP bk o nm) bk.length l = true) : showsL (rowsP bk.reverse o nm) bk.length (turnL bk.length l) = true := by
  obtain ⟨h1, h2, h3⟩ := shows_iff.mp h
  have hb := (subs_mem.mp h1).1
  refine shows_iff.mpr ⟨turn_subs h1, by rw [alone_turn hb]; exact h2, fun m' hm' => ?_⟩
  obtain ⟨m, hm, rfl⟩ := fewer_turn hm'
  rw [alone_turn fun p hp => hb p ((fewer_sub hm).1.subset hp)]
  exact h3 m hm
end Kn
end
section
set_option Elab.async false
set_option linter.all false
set_option maxRecDepth 100000
set_option maxHeartbeats 1000000
namespace Kn
open PySem L2
theorem below_least : ∀ {l : List Nat}, l.Pairwise (· < ·) → ∀ p ∈ l, p < leastOf l := by
  intro l hr p hp
  rcases List.eq_nil_or_concat l with rfl | ⟨m, x, rfl⟩
  · cases hp
  · rw [List.concat_eq_append] at *
    rw [least_snoc]
    rcases List.mem_append.mp hp with z | z
    · have := (List.pairwise_append.mp hr).2.2 p z x (by simp)
      omega
    · have : p = x := by simpa using z
      omega
theorem least_le {l : List Nat} {x : Nat} (h : ∀ p ∈ l, p < x) : leastOf l ≤ x := by
  rcases List.eq_nil_or_concat l with rfl | ⟨m, y, rfl⟩
  · exact Nat.zero_le _
  · rw [List.concat_eq_append] at *
    rw [least_snoc]; exact h y (by simp)
theorem lev_iff {n : Nat} : ∀ {k : Nat} {l : List Nat}, l ∈ lev n k ↔ l ∈ subs n ∧ l.length = k
  | 0, l => by
    show l ∈ [[]] ↔ _
    constructor
    · intro h
      have : l = [] := by simpa using h
      subst this
      exact ⟨subs_mem.mpr ⟨fun p hp => (by cases hp), List.Pairwise.nil⟩, rfl⟩
    · rintro ⟨_, h⟩
      rw [List.length_eq_zero_iff.mp h]; simp
  | k + 1, l => by
    show l ∈ (lev n k).flatMap (fun l => longer1 l n) ↔ _
    rw [List.mem_flatMap]
    constructor
    · rintro ⟨m, hm, hl⟩
      obtain ⟨j, hj, rfl⟩ := List.mem_map.mp hl
      have hj' := List.mem_range.mp hj
      obtain ⟨h1, h2⟩ := lev_iff.mp hm
      obtain ⟨a1, a2⟩ := subs_mem.mp h1
      refine ⟨subs_mem.mpr ⟨fun p hp => ?_, List.pairwise_append.mpr ⟨a2, List.pairwise_singleton _ _, fun a ha b hb => ?_⟩⟩, by rw [List.length_append, h2]; rfl⟩
      · rcases List.mem_append.mp hp with z | z
        · exact a1 p z
        · have : p = leastOf m + j := by simpa using z
          omega
      · have : b = leastOf m + j := by simpa using hb
        have := below_least a2 a ha
        omega
    · rintro ⟨h1, h2⟩
      obtain ⟨a1, a2⟩ := subs_mem.mp h1
      rcases List.eq_nil_or_concat l with rfl | ⟨m, x, rfl⟩
      · cases h2
      · rw [List.concat_eq_append] at *
        obtain ⟨g1, _, g3⟩ := List.pairwise_append.mp a2
        have hx := a1 x (by simp)
        have hm : m ∈ lev n k := lev_iff.mpr ⟨subs_mem.mpr ⟨fun p hp => a1 p (by simp [hp]), g1⟩, by rw [List.length_append] at h2; exact Nat.succ.inj h2⟩
        have hle := least_le (l := m) (x := x) fun p hp => g3 p hp x (by simp)
        refine ⟨m, hm, List.mem_map.mpr ⟨x - leastOf m, List.mem_range.mpr (by omega), ?_⟩⟩
        show m ++ [leastOf m + (x - leastOf m)] = m ++ [x]
        congr 2; omega
theorem lex_app : ∀ {l m u v : List Nat}, l.length = m.length → l < m → l ++ u < m ++ v
  | [], [], _, _, _, h => absurd h (List.lt_irrefl _)
  | [], _ :: _, _, _, e, _ => by cases e
  | _ :: _, [], _, _, e, _ => by cases e
  | a :: l, b :: m, u, v, e, h => by
    rw [List.cons_append, List.cons_append]
    rcases List.cons_lt_cons_iff.mp h with h1 | ⟨h1, h2⟩
    · exact List.cons_lt_cons_iff.mpr (.inl h1)
    · exact List.cons_lt_cons_iff.mpr (.inr ⟨h1, lex_app (Nat.succ.inj e) h2⟩)
theorem lex_last (l : List Nat) {a b : Nat} (h : a < b) : l ++ [a] < l ++ [b] := by
  induction l with
  | nil => exact List.cons_lt_cons_iff.mpr (.inl h)
  | cons x l ih => rw [List.cons_append, List.cons_append]; exact List.cons_lt_cons_iff.mpr (.inr ⟨rfl, ih⟩)
theorem lev_sorted (n : Nat) : ∀ k, (lev n k).Pairwise (· < ·)
  | 0 => List.pairwise_singleton _ _
  | k + 1 => by
    show ((lev n k).flatMap fun l => longer1 l n).Pairwise (· < ·)
    rw [List.pairwise_flatMap]
    refine ⟨fun l _ => ?_, ?_⟩
    · unfold longer1
      rw [List.pairwise_map]
      exact List.pairwise_lt_range.imp fun h => lex_last l (by omega)
    · refine (lev_sorted n k).imp_of_mem fun {a b} ha hb hab x hx y hy => ?_
      obtain ⟨i, _, rfl⟩ := List.mem_map.mp hx
      obtain ⟨j, _, rfl⟩ := List.mem_map.mp hy
      exact lex_app ((lev_iff.mp ha).2.trans (lev_iff.mp hb).2.symm) hab
def ltK (a b : List Nat) : Prop := a.length < b.length ∨ (a.length = b.length ∧ a < b)
def allL (n : Nat) : List (List Nat) := (List.range n).flatMap fun k => lev n (k + 1)
theorem allL_sorted (n : Nat) : (allL n).Pairwise ltK := by
  unfold allL
  rw [List.pairwise_flatMap]
  refine ⟨fun k _ => (lev_sorted n (k + 1)).imp_of_mem fun {a b} ha hb hab => .inr ⟨(lev_iff.mp ha).2.trans (lev_iff.mp hb).2.symm, hab⟩, ?_⟩
  exact List.pairwise_lt_range.imp fun {i j} hij x hx y hy => .inl (by rw [(lev_iff.mp hx).2, (lev_iff.mp hy).2]; omega)
theorem allL_mem {n : Nat} {l : List Nat} : l ∈ allL n ↔ l ∈ subs n ∧ l ≠ [] := by
  unfold allL
  rw [List.mem_flatMap]
  constructor
  · rintro ⟨k, _, h⟩
    obtain ⟨h1, h2⟩ := lev_iff.mp h
    exact ⟨h1, fun z => by rw [z] at h2; cases h2⟩
  · rintro ⟨h1, h2⟩
    have hl : 0 < l.length := List.length_pos_iff.mpr h2
    have hm : l ∈ lev n (l.length - 1 + 1) := lev_iff.mpr ⟨h1, by omega⟩
    exact ⟨l.length - 1, List.mem_range.mpr (by have := lev_le hm; omega), hm⟩
theorem find_first {α : Type} {R : α → α → Prop} {p : α → Bool} : ∀ {l : List α} {x : α}, l.Pairwise R → l.find? p = some x → ∀ y ∈ l, p y = true → y = x ∨ R x y
  | [], _, _, h, _, _, _ => by cases h
  | a :: l, x, hr, h, y, hy, py => by
    obtain ⟨h1, h2⟩ := List.pairwise_cons.mp hr
    rw [List.find?_cons] at h
    cases e : p a with
    | true =>
      rw [e] at h
      have : a = x := Option.some.inj h
      subst this
      rcases List.mem_cons.mp hy with z | z
      · exact .inl z
      · exact .inr (h1 y z)
    | false =>
      rw [e] at h
      rcases List.mem_cons.mp hy with z | z
      · rw [z, e] at py; cases py
      · exact find_first h2 h y z py
theorem needed_some {bk : List S} {o : Nat} {nm : S} {l : List Nat} (h : neededL (rowsP bk o nm) bk.length = some l) : showsL (rowsP bk o nm) bk.length l = true ∧ ∀ m, showsL (rowsP bk o nm) bk.length m = true → m = l ∨ ltK l m := by
  have h' : (allL bk.length).find? (aloneM (rowsP bk o nm)) = some l := h
  have ha : aloneM (rowsP bk o nm) l = true := List.find?_some h'
  have hl := (allL_mem.mp (List.mem_of_find?_eq_some h')).1
  have first := find_first (allL_sorted bk.length) h'
  have ne : ∀ m, aloneM (rowsP bk o nm) m = true → m ≠ [] := fun m hm z => by rw [z, alone_nil] at hm; cases hm
  refine ⟨shows_iff.mpr ⟨hl, ha, fun m hm => ?_⟩, fun m hm => ?_⟩
  · cases e : aloneM (rowsP bk o nm) m with
    | false => rfl
    | true =>
      obtain ⟨s1, s2⟩ := fewer_sub hm
      obtain ⟨b1, b2⟩ := subs_mem.mp hl
      have hms : m ∈ subs bk.length := subs_mem.mpr ⟨fun p hp => b1 p (s1.subset hp), b2.sublist s1⟩
      rcases first m (allL_mem.mpr ⟨hms, ne m e⟩) e with z | z | ⟨z, _⟩
      · rw [z] at s2; omega
      · omega
      · omega
  · obtain ⟨m1, m2, _⟩ := shows_iff.mp hm
    exact first m (allL_mem.mpr ⟨m1, ne m m2⟩) m2
theorem needed_none {bk : List S} {o : Nat} {nm : S} (h : neededL (rowsP bk o nm) bk.length = none) : ∀ m, showsL (rowsP bk o nm) bk.length m = false := fun m => by
  cases e : showsL (rowsP bk o nm) bk.length m with
  | false => rfl
  | true =>
    obtain ⟨m1, m2, _⟩ := shows_iff.mp e
    have h' : (allL bk.length).find? (aloneM (rowsP bk o nm)) = none := h
    have := List.find?_eq_none.mp h' m (allL_mem.mpr ⟨m1, shows_ne e⟩)
    exact absurd m2 this
theorem ltK_asym {a b : List Nat} (h1 : ltK a b) (h2 : ltK b a) : False := by
  rcases h1 with h1 | ⟨e1, h1⟩ <;> rcases h2 with h2 | ⟨e2, h2⟩
  · omega
  · omega
  · omega
  · exact absurd (List.lt_trans h1 h2) (List.lt_irrefl _)
end Kn
end
section
set_option Elab.async false
set_option linter.all false
set_option maxRecDepth 100000
set_option maxHeartbeats 4000000
namespace Kn
open PySem L2
section
variable {X : Cx} {e : Expr} {es : List Expr} {te : TE} {t : TA} {pos : Pos}
def notStar : Expr → Bool
  | .Starred .. => false
  | _ => true
theorem star_cons (h : notStar e = true) (env) : starEach (e :: es) env = (false, eval e env) :: starEach es env := by
  cases e <;> first | rfl | (cases h)
theorem pa_c (ha : PE X e te) (hr : PA X es t) (hs : notStar e = true := by rfl) : PA X (e :: es) (tCons te t) := pa_cons ha hr (star_cons hs _)
end
section
variable {P : Program} {w : World} {K : PySem.W.Frag} {mg : Str → Option Value} {base : Heap}
theorem ix_tupK {X : Cx} (K' : PySem.W.Frag) (hK : X.K = K') : IxR X (rIxT K') := by
  subst hK; exact ix_tup
theorem op_notIn_seqK {X : Cx} (K' : PySem.W.Frag) (hK : X.K = K') : OpR X (compareOp .NotIn) (rIn K' true) := by
  subst hK; exact op_notIn_seq
theorem call_len_seqK {X : Cx} (K' : PySem.W.Frag) (hK : X.K = K') : CallR X (.builtin "len") (fun xs H Q => ∃ p ys, xs = [.ref p] ∧ (SqL K' H p ys ∨ SqT K' H p ys) ∧ Q (.int ys.length) H) := by
  subst hK; exact call_len_seq
theorem LsAt.append {H : Hp} {vs us : List V} {ls ms : List (List Nat)} (h : LsAt H vs ls) (g : LsAt H us ms) : LsAt H (vs ++ us) (ls ++ ms) := by
  refine ⟨by rw [List.length_append, List.length_append, h.len, g.len], fun i v l h1 h2 => ?_⟩
  by_cases hi : i < vs.length
  · rw [List.getElem?_append_left hi] at h1
    rw [List.getElem?_append_left (by rw [← h.len]; exact hi)] at h2
    exact h.at_ i v l h1 h2
  · rw [List.getElem?_append_right (by omega)] at h1
    rw [List.getElem?_append_right (by rw [← h.len]; omega), ← h.len] at h2
    exact g.at_ _ v l h1 h2
def GN (x : S) : Prop := isNm x ∧ x.length ≤ 3
theorem plen3 {bk : List S} {o : Nat} (h : ∀ x ∈ bk, x.length ≤ 3) : (pairsB o bk).length ≤ 4 * bk.length := by
  have e := pairsB_length o bk
  have go : ∀ l : List S, (∀ x ∈ l, x.length ≤ 3) → (l.map fun x => (x.length : Int) + 1).sum ≤ 4 * (l.length : Int) := by
    intro l
    induction l with
    | nil => intro _; simp
    | cons x r ih =>
      intro hl
      have h1 := hl x (List.mem_cons_self ..)
      have h2 := ih fun y hy => hl y (List.mem_cons_of_mem _ hy)
      rw [List.map_cons, List.sum_cons, List.length_cons]
      have : ((r.length + 1 : Nat) : Int) = (r.length : Int) + 1 := rfl
      omega
  have := go bk h
  omega
theorem fit3 {bk : List S} {o : Nat} {x : S} (hB : Bk bk o) (h4 : bk.length ≤ 4) (h3 : ∀ x ∈ bk, x.length ≤ 3) (hx : GN x) : Fit bk o x := by
  refine ⟨hB, hx.1, ?_⟩
  have h1 := plen3 (o := o) h3
  have h2 : (pairsB o bk).length ^ (x.length + 1) ≤ 16 ^ (x.length + 1) := Nat.pow_le_pow_left (by omega) _
  have h5 : (16 : Nat) ^ (x.length + 1) ≤ 16 ^ 4 := Nat.pow_le_pow_right (by decide) (by have := hx.2; omega)
  have h6 : (16 : Nat) ^ 4 = 65536 := by decide
  omega
theorem cut_neg1 {t : S} (h : 1 ≤ t.length) : cutS (tx t) (some (-1)) none = tx (t.drop (t.length - 1)) := by
  unfold cutS
  have e1 : HT.sIx (tx t).length 0 (some (-1)) = t.length - 1 := by
    rw [tx_len]
    have : HT.sIx t.length 0 (some (-1)) = (-1 + (t.length : Int)).toNat := rfl
    rw [this]; omega
  have e2 : HT.sIx (tx t).length (tx t).length none = t.length := by rw [tx_len]; rfl
  rw [e1, e2, tx_cps, List.take_of_length_le (by rw [List.length_drop]; omega)]
theorem subs_len : ∀ n, (subs n).length = 2 ^ n
  | 0 => rfl
  | n + 1 => by
    show (subs n ++ (subs n).map _).length = _
    rw [List.length_append, List.length_map, subs_len n, Nat.pow_succ]; omega
theorem subs_nodup : ∀ n, (subs n).Nodup
  | 0 => by simp [subs]
  | n + 1 => by
    show (subs n ++ (subs n).map _).Nodup
    rw [List.nodup_append]
    refine ⟨subs_nodup n, List.Pairwise.map (fun l => l ++ [n]) (fun a b hab h => hab (List.append_cancel_right h)) (subs_nodup n), fun a ha b hb e => ?_⟩
    obtain ⟨m, _, rfl⟩ := List.mem_map.mp hb
    have := (subs_mem.mp ha).1 n (by rw [e]; simp)
    omega
theorem shaped_intsD (l : List Nat) : SeqAt.shaped (intsD l) = true ∧ (intsD l).canLay0 = true := by
  unfold intsD
  exact ⟨shaped_ints _, by simp only [PyData.canLay0]; exact lay_ints _⟩
theorem eqv_intsD (a b : List Nat) : PyData.eqv (intsD a) (intsD b) = decide (a = b) := by
  unfold intsD
  rw [eqv_ints]
  refine decide_eq_decide.mpr ⟨fun h => ?_, fun h => by rw [h]⟩
  have : ∀ a b : List Nat, (a.map fun (i : Nat) => (i : Int)) = (b.map fun (i : Nat) => (i : Int)) → a = b := by
    intro a
    induction a with
    | nil => intro b h; cases b with | nil => rfl | cons _ _ => cases h
    | cons x a ih =>
      intro b h
      cases b with
      | nil => cases h
      | cons y b =>
        have h1 := List.cons.inj h
        have h2 : (x : Int) = (y : Int) := h1.1
        rw [ih b h1.2, show x = y by omega]
  exact this a b h
theorem subs_short : ∀ {n : Nat} {l : List Nat}, l ∈ subs n → l.length ≤ n
  | 0, l, h => by
    have : l = [] := by simpa [subs] using h
    rw [this]; exact Nat.le_refl _
  | n + 1, l, h => by
    rcases List.mem_append.mp (show l ∈ subs n ++ (subs n).map (fun l => l ++ [n]) from h) with z | z
    · exact Nat.le_succ_of_le (subs_short z)
    · obtain ⟨m, hm, rfl⟩ := List.mem_map.mp z
      rw [List.length_append]
      exact Nat.succ_le_succ (subs_short hm)
theorem iteF' {c : Bool} {A B : Prop} (hc : c = false) (h : B) : if c = true then A else B := by rw [hc]; exact iteF h
theorem iteT' {c : Bool} {A B : Prop} (hc : c = true) (h : A) : if c = true then A else B := by rw [hc]; exact iteT h
theorem ivs_rev (l : List Nat) : (ivs l).reverse = ivs l.reverse := by unfold ivs; rw [List.map_reverse]
theorem getElem?_getD {bk : List S} {p : Nat} (h : p < bk.length) : bk[p]? = some (bk.getD p []) := by
  rw [List.getD_eq_getElem?_getD, List.getElem?_eq_getElem h]; rfl
structure PrAt (H : Hp) (vs : List V) (ls : List (List Nat)) : Prop where
  len : vs.length = ls.length
  at_ : ∀ (i : Nat) (l : List Nat), ls[i]? = some l → ∃ a lb, vs[i]? = some (.ref a) ∧ H a = some (.tup [.int (l.length : Int), .ref lb]) ∧ H lb = some (.lst (ivs l))
theorem PrAt.same {H H' : Hp} {vs : List V} {ls : List (List Nat)} (h : PrAt H vs ls) (e : Same H H') : PrAt H' vs ls := ⟨h.len, fun i l h1 => let ⟨a, lb, e1, e2, e3⟩ := h.at_ i l h1; ⟨a, lb, e1, e _ _ e2, e _ _ e3⟩⟩
theorem PrAt.nil {H : Hp} : PrAt H [] [] := ⟨rfl, fun i l h => by cases h⟩
theorem PrAt.snoc {H : Hp} {vs : List V} {ls : List (List Nat)} {a lb : Addr} {l : List Nat} (h : PrAt H vs ls) (f : H a = some (.tup [.int (l.length : Int), .ref lb])) (g : H lb = some (.lst (ivs l))) : PrAt H (vs ++ [.ref a]) (ls ++ [l]) := by
  refine ⟨by rw [List.length_append, List.length_append, h.len]; rfl, fun i m hm => ?_⟩
  by_cases hi : i < ls.length
  · rw [List.getElem?_append_left hi] at hm
    rw [List.getElem?_append_left (by rw [h.len]; exact hi)]
    exact h.at_ i m hm
  · rw [List.getElem?_append_right (by omega)] at hm
    rw [List.getElem?_append_right (by rw [h.len]; omega), h.len]
    cases e : i - ls.length with
    | zero => rw [e] at hm; cases hm; exact ⟨a, lb, rfl, f, g⟩
    | succ k => rw [e] at hm; cases hm
def prD (l : List Nat) : PyData := .tuple [.int (l.length : Int), intsD l]
theorem reps_pr {H : Hp} : ∀ {ls : List (List Nat)} {vs : List V}, PrAt H vs ls → Reps K H (ls.map prD) vs
  | [], vs, h => by
    have : vs = [] := List.length_eq_zero_iff.mp h.len
    exact this
  | l :: ls, [], h => by have := h.len; simp at this
  | l :: ls, v :: vs, h => by
    obtain ⟨a, lb, e, f, g⟩ := h.at_ 0 l rfl
    have e' : v = .ref a := Option.some.inj e
    refine ⟨v, vs, rfl, by rw [e']; exact ⟨a, _, rfl, .of f, _, _, rfl, rfl, _, _, rfl, rep_ivs g, rfl⟩, reps_pr ⟨by have := h.len; simpa using this, fun i m h2 => ?_⟩⟩
    have := h.at_ (i + 1) m (by simpa using h2)
    simpa using this
theorem shaped_pr (ls : List (List Nat)) : SeqAt.shaped (.list (ls.map prD)) = true := by
  refine (shaped_list fun d hd => ?_).1
  obtain ⟨l, _, rfl⟩ := List.mem_map.mp hd
  unfold prD intsD
  have go : ∀ ns : List Int, PyData.depthAll (ns.map PyData.int) ≤ 1 := by
    intro ns
    induction ns with
    | nil => decide
    | cons n ns ih => rw [List.map_cons]; simp only [PyData.depthAll, PyData.depth]; omega
  have g := go (l.map fun (i : Nat) => (i : Int))
  simp only [PyData.canLay0, PyData.canLayAll0, PyData.depth, PyData.depthAll, Bool.and_true, Bool.true_and]
  exact ⟨lay_ints _, by omega⟩
abbrev toI (l : List Nat) : List Int := l.map fun (i : Nat) => (i : Int)
theorem lex_nat : ∀ {a b : List Nat}, a.length = b.length → HT.lexLt (toI a) (toI b) = true → a < b
  | [], [], _, h => by cases h
  | [], _ :: _, e, _ => by cases e
  | _ :: _, [], e, _ => by cases e
  | x :: a, y :: b, e, h => by
    have h' : (if (x : Int) = (y : Int) then HT.lexLt (toI a) (toI b) else decide ((x : Int) < (y : Int))) = true := h
    by_cases xy : x = y
    · subst xy
      rw [if_pos rfl] at h'
      exact List.cons_lt_cons_iff.mpr (.inr ⟨rfl, lex_nat (Nat.succ.inj e) h'⟩)
    · rw [if_neg (by omega)] at h'
      have := of_decide_eq_true h'
      exact List.cons_lt_cons_iff.mpr (.inl (by omega))
theorem ltP_nat {a b : List Nat} (h : ltP (toI a) (toI b) = true) : ltK a b := by
  unfold ltP at h
  rw [List.length_map, List.length_map] at h
  by_cases e : a.length = b.length
  · rw [if_pos e] at h; exact .inr ⟨e, lex_nat e h⟩
  · rw [if_neg e] at h; exact .inl (of_decide_eq_true h)
theorem getD_toI (good : List (List Nat)) (i : Nat) : (good.map toI).getD i [] = toI (good.getD i []) := by
  rw [List.getD_eq_getElem?_getD, List.getD_eq_getElem?_getD, List.getElem?_map]
  cases good[i]? <;> rfl
theorem perm_getD {good : List (List Nat)} {pm : List Nat} (h : pm.Perm (List.range good.length)) : (pm.map fun i => good.getD i []).Perm good := by
  have h1 := h.map fun i => good.getD i []
  have e : ((List.range good.length).map fun i => good.getD i []) = good := by
    refine List.ext_getElem (by simp) fun i h1 h2 => ?_
    rw [List.getElem_map, List.getElem_range, List.getD_eq_getElem?_getD, List.getElem?_eq_getElem h2]; rfl
  rw [e] at h1; exact h1
theorem toI_inj {a b : List Nat} (h : toI a = toI b) : a = b := by
  have := eqv_intsD a b
  unfold intsD at this
  rw [show (a.map fun (i : Nat) => (i : Int)) = (b.map fun (i : Nat) => (i : Int)) from h, eqv_ints] at this
  exact of_decide_eq_true (by rw [← this]; simp)
theorem PrAt.perm {H : Hp} {vs : List V} {ls : List (List Nat)} {pm : List Nat} (h : PrAt H vs ls) (hp : ∀ i ∈ pm, i < ls.length) : PrAt H (pm.map fun i => vs.getD i .non) (pm.map fun i => ls.getD i []) := by
  refine ⟨by rw [List.length_map, List.length_map], fun i l hl => ?_⟩
  rw [List.getElem?_map] at hl ⊢
  cases e : pm[i]? with
  | none => rw [e] at hl; cases hl
  | some q =>
    rw [e] at hl
    have hq := hp q (List.mem_of_getElem? e)
    have el : ls.getD q [] = l := Option.some.inj hl
    obtain ⟨a, lb, e1, e2, e3⟩ := h.at_ q l (by rw [← el, List.getD_eq_getElem?_getD, List.getElem?_eq_getElem hq]; rfl)
    refine ⟨a, lb, ?_, e2, e3⟩
    show some (vs.getD q .non) = _
    rw [List.getD_eq_getElem?_getD, e1]; rfl
theorem Cal.imp {k : Nat} {x : Str} {ps : List Str} {sp sp' : Sp} (C : Cal P w K mg base k x ps sp) (h : ∀ {vs H Q E}, sp' vs H Q E → sp vs H Q E) : Cal P w K mg base k x ps sp' :=
  let ⟨f, fd, F, r⟩ := C; ⟨f, fd, F.imp fun _ _ _ _ => h, r⟩
structure LawC (P : Program) (w : World) (K : PySem.W.Frag) (mg : Str → Option Value) (base : Heap) : Prop where
  dr : cDr P w K mg base
  nm : Cal P w K mg base 3 "_law_name" ["_law_script", "_law_at", "_law_most"] (spName K)
  bk : Cal P w K mg base 4 "_law_book" ["_law_script", "_law_at", "_law_many", "_law_most"] (spBook K)
  ms : Cal P w K mg base 7 "makes" ["book", "order", "name"] spMakes
  sh : Cal P w K mg base 5 "shows" ["book", "order", "name", "thing"] spShows
  ne : Cal P w K mg base 5 "needed" ["book", "order", "name"] spNeeded
def spLaw (K : PySem.W.Frag) : Sp := fun vs H Q _ => ∃ (a : Addr) (ns : List Int), vs = [.ref a] ∧ SqL K H a (ns.map V.int) ∧ ns.length ≤ 63 ∧ ∀ H', Q (.bl true) H'
abbrev sLaw : Stmt := top 47
theorem scLaw : FnScope ["_law_script", "_law_book_here", "_law_order", "_law_name_here", "_law_lists", "_law_place", "_law_good", "_law_some", "_law_other", "_law_turned", "_law_due"] ["_law_script"] (defScope sLaw) := ⟨rfl, rfl, rfl, by decide +kernel, rfl, by decide +kernel, by decide +kernel⟩
theorem ndA : (["_law_place", "_law_some"] : List Str).Nodup := by decide +kernel
theorem ndB : (["_law_book_here", "_law_order", "_law_name_here", "_law_some"] : List Str).Nodup := by decide +kernel
theorem ndC : (["_law_some", "_law_place"] : List Str).Nodup := by decide +kernel
theorem ndD : (["_law_book_here", "_law_place"] : List Str).Nodup := by decide +kernel
theorem ndF : (["_law_some"] : List Str).Nodup := by decide +kernel
theorem ok_law {f : Addr} {fd : FuncData} (F : Fun K "law" "law" sLaw f fd) (B : Blt mg) (C : LawC P w K mg base) : FnOk P w K mg base CX0 8 f fd ["_law_script"] (spLaw K) := by
  refine F.ok scLaw (fun vs H Q E h => ?_) (fun cdv A outer s H vs Q E hr h => ?_)
  · obtain ⟨a, ns, rfl, _⟩ := h; rfl
  · obtain ⟨a, ns, rfl, ha, hl, k⟩ := h
    have nd := scLaw.nd
    have hu := hr.units
    have r5 := hr.mono (j := 5) (by decide)
    have r4 := hr.mono (j := 4) (by decide)
    have r3 := hr.mono (j := 3) (by decide)
    have r2 := hr.mono (j := 2) (by decide)
    refine ⟨_, pss_cons (ps_set (i := 1) nd rfl (Or.inr rfl) (pe_cal C.bk r4 rfl (pa_c (pv 0) (pa_c pe_int (pa_c pe_int (pa_c pe_int pa_nil))))))
      (pss_cons (ps_set (i := 2) nd rfl (Or.inr rfl) (pe_op op_add pe_int (pe_cal C.dr r2 rfl (pa_c (pv 0) (pa_c pe_int (pa_c pe_int pa_nil))))))
      (pss_cons (ps_for PassesOwn.never rfl (pi_tup (pe_tup (pa_c (pe_cal C.nm r3 rfl (pa_c (pv 0) (pa_c pe_int (pa_c pe_int pa_nil)))) (pa_c (pe_ix ix_tup (pv 1) pe_int (fun _ _ => rfl))
          (pa_c (pe_op op_add_str (pe_sliceS (pe_ix ix_tup (pv 1) pe_int (fun _ _ => rfl)) po_none (po_some pe_int)) (pe_sliceS (pe_ix ix_tup (pv 1) (pe_un un_neg pe_int) (fun _ _ => rfl)) (po_some (pe_un un_neg pe_int)) po_none)) pa_nil))))) (pg_name (i := 3) nd rfl (Or.inr rfl))
        (pss_cons (ps_set (i := 4) nd rfl (Or.inl rfl) (pe_lst (pa_c (pe_lst pa_nil) pa_nil)))
        (pss_cons (ps_for PassesOwn.never rfl (pi_range1 rfl B.range (pa_cons (pe_callB call_len_seq (by rfl) B.len PySem.boot_len (pa_c (pv 1) pa_nil)) pa_nil)) (pg_name (i := 5) nd rfl (Or.inr rfl))
          (pss_one (ps_set (i := 4) nd rfl (Or.inl rfl) (pe_op op_cat (pv 4) (pe_comp (N := ["_law_place", "_law_some"]) (caps := [5]) rfl (compScope_of (by kernel_rfl)) (pi_list (pv 4))
            (fun cl X s H ex => pg_name (i := 1) ndA rfl (Or.inl rfl)) (fun cl X s H ex => pf_nil)
            (fun cl X s H ex => pe_op op_cat (pv 1) (pe_lst (pa_c (pv 0) pa_nil))))))))
        (pss_cons (ps_setC (j := 6) (N := ["_law_book_here", "_law_order", "_law_name_here", "_law_some"]) (caps := [1, 2, 3]) nd rfl (Or.inl rfl) rfl (compScope_of (by kernel_rfl)) (pi_list (pv 4))
            (fun cl X s H ex => pg_name (i := 3) ndB rfl (Or.inl rfl)) (fun cl X s H ex => pf_one (pt_val (pe_cal C.sh r5 rfl (pa_c (pv 0) (pa_c (pv 1) (pa_c (pv 2) (pa_c (pv 3) pa_nil)))))))
            (fun cl X s H ex => pv 3))
        (pss_cons (ps_if (pt_cmpR op_ne (pe_cmpR (op_neD hu) (pv 6) (pe_lst pa_nil) (nomark _)) (pe_cal C.ms hr rfl (pa_c (pv 1) (pa_c (pv 2) (pa_c (pv 3) pa_nil)))) (nomark _)) (pss_one (ps_ret pe_bl)) pss_nil)
        (pss_cons (ps_for PassesOwn.never rfl (pi_list (pv 6)) (pg_name (i := 7) nd rfl (Or.inr rfl))
          (pss_cons (ps_for PassesOwn.never rfl (pi_list (pv 6)) (pg_name (i := 8) nd rfl (Or.inl rfl))
            (pss_one (ps_if (PW.pt (pw_and (pt_cmpR (op_neD hu) (pv 8) (pv 7) (nomark _)) (pw_and1 (pt_cmpR (op_eqD hu) (pe_comp (N := ["_law_some", "_law_place"]) (caps := [7]) rfl (compScope_of (by kernel_rfl)) (pi_list (pv 8))
                (fun cl X s H ex => pg_name (i := 1) ndC rfl (Or.inl rfl)) (fun cl X s H ex => pf_one (pt_cmpR (op_notIn_seqK K rfl) (pv 1) (pv 0) (by with_unfolding_all rfl)))
                (fun cl X s H ex => pv 1)) (pe_lst pa_nil) (nomark _))))) (pss_one (ps_ret pe_bl)) pss_nil)))
          (pss_cons (ps_if (pt_not (pt_val (pe_cal C.ms hr rfl (pa_c (pe_callTy call_tuple_of (by rfl) B.tuple PyProof.Rows.boot_tuple (pa_c (pe_comp (N := ["_law_book_here", "_law_place"]) (caps := [1]) rfl (compScope_of (by kernel_rfl)) (pi_list (pv 7))
              (fun cl X s H ex => pg_name (i := 1) ndD rfl (Or.inl rfl)) (fun cl X s H ex => pf_nil)
              (fun cl X s H ex => pe_ix (ix_tupK K rfl) (pv 0) (pv 1) (fun _ _ => rfl))) pa_nil)) (pa_c (pv 2) (pa_c (pv 3) pa_nil)))))) (pss_one (ps_ret pe_bl)) pss_nil)
          (pss_cons (ps_setC (j := 9) (N := ["_law_book_here", "_law_place"]) (caps := [1]) nd rfl (Or.inl rfl) rfl (compScope_of (by kernel_rfl)) (pi_list (pe_revL (pv 7) (pe_un un_neg pe_int)))
              (fun cl X s H ex => pg_name (i := 1) ndD rfl (Or.inl rfl)) (fun cl X s H ex => pf_nil)
              (fun cl X s H ex => pe_op op_sub (pe_op op_sub (pe_callB (call_len_seqK K rfl) (by rfl) B.len PySem.boot_len (pa_c (pv 0) pa_nil)) pe_int) (pv 1)))
          (pss_cons (ps_if (pt_not (pt_val (pe_cal C.sh r5 rfl (pa_c (pe_revT (pv 1) (pe_un un_neg pe_int)) (pa_c (pv 2) (pa_c (pv 3) (pa_c (pv 9) pa_nil))))))) (pss_one (ps_ret pe_bl)) pss_nil)
          (pss_one (ps_if (PW.pt (pw_and (pt_val (pe_cal C.sh r5 rfl (pa_c (pv 1) (pa_c (pv 2) (pa_c (pv 3) (pa_c (pe_revL (pv 7) (pe_un un_neg pe_int)) pa_nil)))))) (pw_and1 (pt_cmpR op_gt (pe_callB call_len_seq (by rfl) B.len PySem.boot_len (pa_c (pv 7) pa_nil)) pe_int (nomark _))))) (pss_one (ps_ret pe_bl)) pss_nil)))))))
        (pss_cons (ps_set (i := 10) nd rfl (Or.inl rfl) (pe_callB (call_sortedL rfl hu) (by rfl) B.sorted PyProof.Rows.boot_sorted (pa_c (pe_comp (N := ["_law_some"]) (caps := []) rfl (compScope_of (by kernel_rfl)) (pi_list (pv 6))
            (fun cl X s H ex => pg_name (i := 0) ndF rfl (Or.inl rfl)) (fun cl X s H ex => pf_nil)
            (fun cl X s H ex => pe_tup (pa_c (pe_callB (call_len_seqK K rfl) (by rfl) B.len PySem.boot_len (pa_c (pv 0) pa_nil)) (pa_c (pv 0) pa_nil)))) pa_nil)))
        (pss_cons (ps_if (pt_cmpR (op_neD hu) (pe_cal C.ne r5 rfl (pa_c (pv 1) (pa_c (pv 2) (pa_c (pv 3) pa_nil)))) (pe_ifExp (pt_cmpR (op_neD hu) (pv 10) (pe_lst pa_nil) (nomark _)) (pe_ix ix_tup (pe_ix ix_list (pv 10) pe_int (fun _ _ => rfl)) pe_int (fun _ _ => rfl)) pe_non) (nomark _)) (pss_one (ps_ret pe_bl)) pss_nil)
        (pss_cons (ps_if (PW.pt (pw_or (pt_val (pe_cal C.sh r5 rfl (pa_c (pv 1) (pa_c (pv 2) (pa_c (pv 3) (pa_c (pe_lst pa_nil) pa_nil)))))) (pw_or1 (pt_val (pe_cal C.sh r5 rfl (pa_c (pv 1) (pa_c (pv 2) (pa_c (pv 3) (pa_c (pe_lst (pa_c (pe_callB call_len_seq (by rfl) B.len PySem.boot_len (pa_c (pv 1) pa_nil)) pa_nil)) pa_nil))))))))) (pss_one (ps_ret pe_bl)) pss_nil)
        (pss_one (ps_if (pt_val (pe_cal C.sh r5 rfl (pa_c (pv 1) (pa_c (pv 2) (pa_c (pv 3) (pa_c pe_non pa_nil)))))) (pss_one (ps_ret pe_bl)) pss_nil)))))))))))
      (pss_one (ps_ret pe_bl)))), ?_⟩
    have zs : ∀ n : Nat, n ≤ 100000 → n ≤ sizeLine := fun n h => by rw [sizeLine_eq]; omega
    refine ⟨_, rfl, a, ns, 0, 4, 3, rfl, ha, hl, by decide, by decide, by decide, by decide, fun b bk H1 s1 hb1 bl1 bl2 bn => ?_⟩
    refine ⟨_, rfl, a, ns, 50, 3, rfl, s1.seq ha, hl, by decide, by decide, fun od H2 hod s2 => ⟨_, _, rfl, rfl, ?_⟩⟩
    obtain ⟨o, eo⟩ : ∃ o, o = 1 + od := ⟨_, rfl⟩
    have ho1 : 1 ≤ o := by omega
    have ho3 : o ≤ 3 := by omega
    have eo2 : (1 : Int) + (od : Int) = (o : Int) := by rw [eo]; omega
    have hb2 := s2 _ _ hb1
    have ha2 := (s1.trans s2).seq ha
    show tSeq _ _ _ [some (.ref a), some (.ref b), some (.int ((1 : Int) + (od : Int))), none, none, none, none, none, none, none, none] H2
    rw [eo2]
    clear eo2 eo hod od s1 s2 hb1
    have hB : Bk bk o := ⟨⟨bl1, by omega, fun x hx => (bn x hx).1⟩, ho1, ho3⟩
    have ebk : (bkV bk).length = bk.length := List.length_map ..
    obtain ⟨t0, bt, et0⟩ : ∃ t r, bk = t :: r := by
      cases bk with
      | nil => exact absurd bl1 (by decide)
      | cons t r => exact ⟨t, r, rfl⟩
    obtain ⟨br, tl', etl⟩ : ∃ r t, bk = r ++ [t] := by
      rcases List.eq_nil_or_concat bk with z | ⟨r, t, z⟩
      · rw [z] at bl1; cases bl1
      · exact ⟨r, t, by rw [z, List.concat_eq_append]⟩
    have gt0 := bn t0 (by rw [et0]; exact List.mem_cons_self ..)
    have gtl := bn tl' (by rw [etl]; simp)
    refine ⟨_, rfl, a, ns, 60, 3, rfl, ha2, hl, by decide, by decide, fun nm1 H3 s3 hn1 hn2 => ?_⟩
    have hb3 := s3 _ _ hb2
    have at0 : atI (bkV bk) 0 = some (sv t0) := atI_nat (j := 0) (by rw [et0]; rfl)
    have atl : atI (bkV bk) (-1) = some (sv tl') := by rw [etl, bkV, List.map_append]; exact atI_last _ _
    refine ⟨_, rfl, b, _, 0, sv t0, rfl, rfl, .of hb3, at0, ?_⟩
    refine ⟨_, rfl, b, _, 0, sv t0, rfl, rfl, .of hb3, at0, _, rfl, tx t0, rfl, zs _ (by rw [tx_len]; omega), ?_⟩
    refine ⟨_, rfl, _, rfl, b, _, -1, sv tl', rfl, rfl, .of hb3, atl, _, rfl, _, rfl, tx tl', rfl, zs _ (by rw [tx_len]; omega), ?_⟩
    rw [show cutS (tx t0) none (some 1) = tx (t0.take 1) from cut_to t0 1, cut_neg1 gtl.1.1]
    refine ⟨_, _, rfl, rfl, zs _ (by rw [tx_len, tx_len, List.length_take, List.length_drop]; omega), ?_⟩
    have etx : tx (t0.take 1) ++ tx (tl'.drop (tl'.length - 1)) = tx (t0.take 1 ++ tl'.drop (tl'.length - 1)) := MyS.Str_ext (by
      show ((t0.take 1).toArray ++ (tl'.drop (tl'.length - 1)).toArray).toList = (t0.take 1 ++ tl'.drop (tl'.length - 1)).toArray.toList
      simp)
    rw [etx]
    obtain ⟨nm3, e3⟩ : ∃ x, x = t0.take 1 ++ tl'.drop (tl'.length - 1) := ⟨_, rfl⟩
    rw [← e3]
    have g3 : GN nm3 := by
      have l0 := gt0.1.1
      have ll := gtl.1.1
      have e : nm3.length = 2 := by rw [e3, List.length_append, List.length_take, List.length_drop]; omega
      refine ⟨⟨by omega, by omega, fun c hc => ?_⟩, by omega⟩
      rw [e3] at hc
      rcases List.mem_append.mp hc with z | z
      · exact gt0.1.2.2 c (List.mem_of_mem_take z)
      · exact gtl.1.2.2 c (List.mem_of_mem_drop z)
    refine ⟨by show 3 ≤ sizeLine; decide, fun tp htp => ?_⟩
    have t1 : Same H3 (upd H3 tp (.tup [sv nm1, sv t0, sv nm3])) := Same.upd1 htp
    have hbG := t1 _ _ hb3
    have htG : (upd H3 tp (.tup [sv nm1, sv t0, sv nm3])) tp = some (.tup [sv nm1, sv t0, sv nm3]) := upd_same
    generalize upd H3 tp (.tup [sv nm1, sv t0, sv nm3]) = G at hbG htG
    clear t1 htp etx e3 hb3 s3 ha2 hb2 at0 atl
    refine ⟨tp, rfl, ⟨_, .of htG⟩, ?_⟩
    refine for_known (known_tup K tp [sv nm1, sv t0, sv nm3]) (fun i σ H' => (∃ x3 x4 x5 x6 x7 x8 x9 x10 : Option V, σ = [some (.ref a), some (.ref b), some (.int (o : Int)), x3, x4, x5, x6, x7, x8, x9, x10]) ∧ Same G H')
      ⟨⟨_, _, _, _, _, _, _, _, rfl⟩, Same.refl _⟩ (fun i σ H' _ h => .of (h.2 _ _ htG)) ?_ ?_
    · rintro i x σ H' Nx hN hx ⟨⟨x3, x4, x5, x6, x7, x8, x9, x10, rfl⟩, sm⟩
      obtain ⟨nm, rfl, gn⟩ : ∃ nm : S, x = sv nm ∧ GN nm := by
        match i, hx with
        | 0, hx => exact ⟨nm1, by simpa using hx.symm, hn1, hn2⟩
        | 1, hx => exact ⟨t0, by simpa using hx.symm, gt0⟩
        | 2, hx => exact ⟨nm3, by simpa using hx.symm, g3⟩
        | n + 3, hx => simp at hx
      clear hx
      have hb4 := sm _ _ hbG
      refine ⟨by show 0 ≤ sizeLine; decide, fun p0 hp0 => ?_⟩
      have u0 : Same H' (upd H' p0 (.lst [])) := Same.upd1 hp0
      refine ⟨by show 1 ≤ sizeLine; decide, fun p1 hp1 => ?_⟩
      have u1 := u0.trans (Same.upd1 (o := .lst [.ref p0]) hp1)
      have ls0 : LsAt (upd (upd H' p0 (.lst [])) p1 (.lst [.ref p0])) [.ref p0] (subs 0) := LsAt.snoc LsAt.nil (Same.upd1 hp1 _ _ upd_same)
      have hp11 : (upd (upd H' p0 (.lst [])) p1 (.lst [.ref p0])) p1 = some (.lst [.ref p0]) := upd_same
      generalize upd (upd H' p0 (.lst [])) p1 (.lst [.ref p0]) = H4 at u1 ls0 hp11
      have hb5 := u1 _ _ hb4
      have sm4 := sm.trans u1
      clear u1 u0 hp0 hp1 hb4 sm H'
      refine ⟨_, rfl, b, bkV bk, rfl, .inr (.of hb5), _, rfl, by rw [ebk]; omega, by rw [ebk]; omega, ?_⟩
      have enn : ((bkV bk).length : Int).toNat = bk.length := by rw [ebk]; omega
      refine for_known (known_range 0 _) (fun i σ H' => (∃ (lk : Addr) (xk : List V) (y : Option V), σ = [some (.ref a), some (.ref b), some (.int (o : Int)), some (sv nm), some (.ref lk), y, x6, x7, x8, x9, x10] ∧ H' lk = some (.lst xk) ∧ LsAt H' xk (subs i)) ∧ Same H4 H')
        ⟨⟨p1, _, _, rfl, hp11, ls0⟩, Same.refl _⟩ (fun i σ H' _ h => trivial) ?_ ?_
      · rintro i x σ H' Nx2 hN2 hx ⟨⟨lk, xk, y, rfl, hlk, lsk⟩, sm⟩
        rw [enn] at hx
        obtain ⟨hi, rfl⟩ := range_item hx
        have xl := lsk.len
        have p16 : (subs i).length ≤ 16 := by
          rw [subs_len]
          have : (2 : Nat) ^ i ≤ 2 ^ 4 := Nat.pow_le_pow_right (by decide) (by omega)
          have e : (2 : Nat) ^ 4 = 16 := by decide
          omega
        refine ⟨_, rfl, _, rfl, lk, rfl, ⟨_, .of hlk⟩, ?_⟩
        refine comp_known0 (known_list K lk xk) [some (.int (i : Int))] 1 (by omega) (fun j acc H'' => Same H' H'' ∧ acc.length = j ∧ LsAt H'' acc (((subs i).take j).map fun l => l ++ [i]))
          ⟨Same.refl _, rfl, LsAt.nil⟩ (fun j acc H'' _ h => ⟨.of (h.1 _ _ hlk), Nat.le_of_eq h.2.1⟩) ?_ ?_
        · rintro j y' acc H'' ys Nx3 hN3 hx3 hy ⟨sm', hal, ls'⟩
          obtain ⟨y'', rfl⟩ := ys1 hy
          obtain ⟨a1, l, el, rfl, h1⟩ := lsk.get hx3
          have hll : l.length ≤ 100 := by have := subs_short (List.mem_of_getElem? el); omega
          have h1' := sm' _ _ h1
          refine ⟨_, rfl, _, rfl, by show 1 ≤ sizeLine; decide, fun p2 hp2 => ?_⟩
          have t1 : Same H'' (upd H'' p2 (.lst [.int (i : Int)])) := Same.upd1 hp2
          refine ⟨a1, p2, _, _, rfl, rfl, t1 _ _ h1', upd_same, by rw [ivs_len, sizeLine_eq]; show _ + 1 ≤ 16777216; omega, fun p3 hp3 => hN3 _ _ [some (.ref a1)] rfl ⟨(sm'.trans t1).trans (Same.upd1 hp3), by rw [List.length_append, hal]; rfl, ?_⟩⟩
          rw [List.take_succ_eq_append_getElem (List.getElem?_eq_some_iff.mp el).1, (List.getElem?_eq_some_iff.mp el).2, List.map_append]
          refine (ls'.same (t1.trans (Same.upd1 hp3))).snoc ?_
          rw [upd_same]; unfold ivs; rw [List.map_append]; rfl
        · rintro acc H'' ⟨sm', hal, ls'⟩ D hD
          rw [xl, List.take_length] at ls'
          rw [xl] at hal
          have t1 : Same H'' (upd H'' D (.lst acc)) := Same.upd1 hD
          refine ⟨lk, D, _, _, rfl, rfl, t1 _ _ (sm' _ _ hlk), upd_same, by rw [sizeLine_eq]; omega, fun p4 hp4 => hN2 _ _ ⟨⟨p4, _, _, rfl, upd_same, ?_⟩, ((sm.trans sm').trans t1).trans (Same.upd1 hp4)⟩⟩
          exact ((lsk.same (sm'.trans t1)).append (ls'.same t1)).same (Same.upd1 hp4)
      rintro σ H5 ⟨⟨lk, xk, y, rfl, hlk, lsk⟩, sm5'⟩
      rw [List.length_map, List.length_range, enn] at lsk
      have hb6 := sm5' _ _ hb5
      have sm5 := sm4.trans sm5'
      clear sm5' sm4 hb5 ls0 hp11 H4
      obtain ⟨rows, erows⟩ : ∃ rows, rows = rowsP bk o nm := ⟨_, rfl⟩
      obtain ⟨n, en⟩ : ∃ n, n = bk.length := ⟨_, rfl⟩
      have n4 : n ≤ 4 := by omega
      have xl := lsk.len
      rw [← en] at lsk xl
      have p16 : (subs n).length ≤ 16 := by
        rw [subs_len]
        have : (2 : Nat) ^ n ≤ 2 ^ 4 := Nat.pow_le_pow_right (by decide) (by omega)
        have e : (2 : Nat) ^ 4 = 16 := by decide
        omega
      refine ⟨_, rfl, lk, rfl, ⟨_, .of hlk⟩, ?_⟩
      refine comp_known (known_list K lk xk) [some (.ref b), some (.int (o : Int)), some (sv nm)] 1 (by omega) (fun j acc H'' => Same H5 H'' ∧ acc.length ≤ j ∧ LsAt H'' acc (((subs n).take j).filter (showsL rows n)))
        ⟨Same.refl _, Nat.le_refl _, LsAt.nil⟩ (fun j acc H'' _ h => ⟨.of (h.1 _ _ hlk), h.2.1⟩) ?_ ?_
      · rintro j y' acc H'' ys Nx3 hN3 hx3 hy ⟨sm', hal, ls'⟩
        obtain ⟨y'', rfl⟩ := ys1 hy
        obtain ⟨a1, l, el, rfl, h1⟩ := lsk.get hx3
        have hll := subs_short (List.mem_of_getElem? el)
        have h1' := sm' _ _ h1
        refine ⟨_, rfl, _, rfl, _, rfl, _, rfl, b, bk, o, nm, .ref a1, rfl, sm' _ _ hb6, hB, gn.1, .inr ⟨a1, l, rfl, h1', by omega, fun H6 s6 => ⟨_, rfl, ?_⟩⟩⟩
        rw [← erows, ← en]
        have etk : (subs n).take (j + 1) = (subs n).take j ++ [l] := by rw [List.take_succ_eq_append_getElem (List.getElem?_eq_some_iff.mp el).1, (List.getElem?_eq_some_iff.mp el).2]
        cases es : showsL rows n l with
        | true =>
          refine iteT ⟨_, rfl, hN3 _ _ [some (.ref a1)] rfl ⟨sm'.trans s6, by rw [List.length_append]; exact Nat.succ_le_succ hal, ?_⟩⟩
          rw [etk, List.filter_append]
          have : [l].filter (showsL rows n) = [l] := by simp [es]
          rw [this]
          exact (ls'.same s6).snoc (s6 _ _ h1')
        | false =>
          refine iteF (hN3 _ _ [some (.ref a1)] rfl ⟨sm'.trans s6, Nat.le_succ_of_le hal, ?_⟩)
          rw [etk, List.filter_append]
          have : [l].filter (showsL rows n) = [] := by simp [es]
          rw [this, List.append_nil]
          exact ls'.same s6
      rintro xg H6 ⟨s6, hxg, lsg⟩ lg hlg
      rw [xl, List.take_length] at lsg
      obtain ⟨good, egood⟩ : ∃ good, good = (subs n).filter (showsL rows n) := ⟨_, rfl⟩
      rw [← egood] at lsg
      have g16 : good.length ≤ 16 := by rw [egood]; exact Nat.le_trans (List.length_filter_le ..) p16
      have gm : ∀ l ∈ good, showsL rows n l = true ∧ l ∈ subs n := fun l hl => by rw [egood] at hl; exact ⟨(List.mem_filter.mp hl).2, (List.mem_filter.mp hl).1⟩
      have t1 : Same H6 (upd H6 lg (.lst xg)) := Same.upd1 hlg
      have lsg7 := lsg.same t1
      have hlg7 : (upd H6 lg (.lst xg)) lg = some (.lst xg) := upd_same
      have hb7 := t1 _ _ (s6 _ _ hb6)
      have sm7 := (sm5.trans s6).trans t1
      generalize upd H6 lg (.lst xg) = H7 at lsg7 hlg7 hb7 sm7
      clear t1 hlg lsg hxg s6 lsk hlk hb6 sm5 H5 H6 xl
      have gl := lsg7.len
      refine ⟨_, rfl, by show 0 ≤ sizeLine; decide, fun e1 he1 => ?_⟩
      have t1 : Same H7 (upd H7 e1 (.lst [])) := Same.upd1 he1
      refine ⟨.list (good.map intsD), .list [], ⟨lg, _, rfl, .of (t1 _ _ hlg7), reps_ls (lsg7.same t1)⟩, ⟨e1, [], rfl, .of upd_same, rfl⟩, shaped_ls _, rfl, ?_⟩
      have fit := fit3 hB bl2 (fun x hx => (bn x hx).2) gn
      refine ⟨_, rfl, _, rfl, _, rfl, b, bk, o, nm, rfl, t1 _ _ hb7, fit, fun H8 s8 => ⟨rfl, _, rfl, iteNS ?_ ?_⟩⟩
      · rw [eqv_niL, List.isEmpty_map]
        have : (∃ l ∈ subs n, showsL rows n l = true) ↔ 0 < (shareOf (pairsB o bk) o nm).1 := by rw [erows, en]; exact good_iff
        congr 1
        show (!good.isEmpty) = _
        by_cases h : 0 < (shareOf (pairsB o bk) o nm).1
        · rw [decide_eq_true h]
          obtain ⟨l, h1, h2⟩ := this.mpr h
          have hm : l ∈ good := by rw [egood]; exact List.mem_filter.mpr ⟨h1, h2⟩
          cases good with
          | nil => cases hm
          | cons _ _ => rfl
        · rw [decide_eq_false h]
          cases eg : good with
          | nil => rfl
          | cons l r => exact absurd (this.mp ⟨l, (gm l (by rw [eg]; exact List.mem_cons_self ..)).2, (gm l (by rw [eg]; exact List.mem_cons_self ..)).1⟩) h
      have t8 := t1.trans s8
      have lsg8 := lsg7.same t8
      have hlg8 := t8 _ _ hlg7
      have hb8 := t8 _ _ hb7
      have sm8 := sm7.trans t8
      clear t8 s8 t1 he1 lsg7 hlg7 hb7 sm7 H7
      refine ⟨_, rfl, lg, rfl, ⟨_, .of hlg8⟩, ?_⟩
      refine for_known (known_list K lg xg) (fun i σ H' => (∃ x7 x8 x9 : Option V, σ = [some (.ref a), some (.ref b), some (.int (o : Int)), some (sv nm), some (.ref lk), y, some (.ref lg), x7, x8, x9, x10]) ∧ Same H8 H')
        ⟨⟨_, _, _, rfl⟩, Same.refl _⟩ (fun i σ H' _ h => .of (h.2 _ _ hlg8)) ?_ ?_
      · rintro i2 x σ H9 Nx2 hN2 hx ⟨⟨x7, x8, x9, rfl⟩, s9⟩
        have lsg9 := lsg8.same s9
        obtain ⟨a1, l, el, rfl, h1⟩ := lsg9.get hx
        have hlm := List.mem_of_getElem? el
        obtain ⟨hsl, hls⟩ := gm l hlm
        have hll := subs_short hls
        have hlg9 := s9 _ _ hlg8
        have hb9 := s9 _ _ hb8
        have hlt : ∀ p ∈ l, p < bk.length := fun p hp => by have := (subs_mem.mp hls).1 p hp; omega
        refine ⟨_, rfl, lg, rfl, ⟨_, .of hlg9⟩, ?_⟩
        refine for_known (known_list K lg xg) (fun i σ H' => (∃ x8 : Option V, σ = [some (.ref a), some (.ref b), some (.int (o : Int)), some (sv nm), some (.ref lk), y, some (.ref lg), some (.ref a1), x8, x9, x10]) ∧ Same H9 H')
          ⟨⟨_, rfl⟩, Same.refl _⟩ (fun i σ H' _ h => .of (h.2 _ _ hlg9)) ?_ ?_
        · rintro i3 x σ H10 Nx3 hN3 hx3 ⟨⟨x8', rfl⟩, s10⟩
          obtain ⟨a2, m, em, rfl, h2⟩ := (lsg9.same s10).get hx3
          obtain ⟨hsm, hms⟩ := gm m (List.mem_of_getElem? em)
          have hml := subs_short hms
          have h1' := s10 _ _ h1
          refine ⟨_, rfl, _, rfl, intsD m, intsD l, rep_ivs h2, rep_ivs h1', (shaped_intsD m).1, (shaped_intsD l).1, _, rfl, ?_⟩
          by_cases hml' : m = l
          · refine iteF' (by show (!PyData.eqv (intsD m) (intsD l)) = false; rw [eqv_intsD, decide_eq_true hml']; rfl) (iteF (hN3 _ _ ⟨⟨_, rfl⟩, s10⟩))
          refine iteT' (by show (!PyData.eqv (intsD m) (intsD l)) = true; rw [eqv_intsD, decide_eq_false hml']; rfl) ?_
          refine ⟨_, rfl, a2, rfl, ⟨_, .of h2⟩, ?_⟩
          refine comp_known (known_list K a2 (ivs m)) [some (.ref a1)] 1 (by rw [ivs_len]; omega) (fun j acc H'' => Same H10 H'' ∧ acc.length ≤ j ∧ acc = ivs ((m.take j).filter fun p => !decide (p ∈ l)))
            ⟨Same.refl _, Nat.le_refl _, rfl⟩ (fun j acc H'' _ h => ⟨.of (h.1 _ _ h2), h.2.1⟩) ?_ ?_
          · rintro j y' acc H'' ys Nx4 hN4 hx4 hy ⟨sm', hal, ea⟩
            obtain ⟨y'', rfl⟩ := ys1 hy
            obtain ⟨p, ep, rfl⟩ := ivs_get hx4
            have etk : m.take (j + 1) = m.take j ++ [p] := by rw [List.take_succ_eq_append_getElem (List.getElem?_eq_some_iff.mp ep).1, (List.getElem?_eq_some_iff.mp ep).2]
            refine ⟨_, rfl, _, rfl, a1, ivs l, rfl, .inl (.of (sm' _ _ h1')), rfl, flat_ivs _, _, rfl, ?_⟩
            by_cases hp : p ∈ l
            · refine iteF' (by show (!inV (.int (p : Int)) (ivs l)) = false; rw [in_ivs, decide_eq_true hp]; rfl) (hN4 _ _ [some (.int (p : Int))] rfl ⟨sm', Nat.le_succ_of_le hal, ?_⟩)
              rw [etk, List.filter_append, ea]; simp [hp]
            · refine iteT' (by show (!inV (.int (p : Int)) (ivs l)) = true; rw [in_ivs, decide_eq_false hp]; rfl) ⟨_, rfl, hN4 _ _ [some (.int (p : Int))] rfl ⟨sm', by rw [List.length_append]; exact Nat.succ_le_succ hal, ?_⟩⟩
              rw [etk, List.filter_append, ea]; simp [hp, ivs]
          rintro acc H'' ⟨sm', hal, ea⟩ D hD
          rw [ivs_len, List.take_length] at ea
          subst ea
          have hne : (m.filter fun p => !decide (p ∈ l)) ≠ [] := fun z => by
            obtain ⟨p, hp1, hp2⟩ := least_anti hsl hsm hml'
            have hm : p ∈ m.filter fun p => !decide (p ∈ l) := List.mem_filter.mpr ⟨hp1, by simp [hp2]⟩
            rw [z] at hm; cases hm
          refine ⟨by show 0 ≤ sizeLine; decide, fun e2 he2 => ?_⟩
          have t1 := Same.upd1 (o := .lst (ivs (m.filter fun p => !decide (p ∈ l)))) hD
          refine ⟨intsD (m.filter fun p => !decide (p ∈ l)), .list [], rep_ivs (Same.upd1 he2 _ _ upd_same), ⟨e2, [], rfl, .of upd_same, rfl⟩, (shaped_intsD _).1, rfl, _, rfl, ?_⟩
          refine iteF' (by show PyData.eqv (intsD _) (intsD []) = false; rw [eqv_intsD]; exact decide_eq_false hne) (hN3 _ _ ⟨⟨_, rfl⟩, ((s10.trans sm').trans t1).trans (Same.upd1 he2)⟩)
        rintro σ H10 ⟨⟨x8', rfl⟩, s10⟩
        have h1a := s10 _ _ h1
        have hba := s10 _ _ hb9
        have s10' := s9.trans s10
        clear s10 hlg9 hb9 lsg9 h1 s9 hx H9
        refine ⟨_, rfl, a1, rfl, ⟨_, .of h1a⟩, ?_⟩
        refine comp_known0 (known_list K a1 (ivs l)) [some (.ref b)] 1 (by rw [ivs_len]; omega) (fun j acc H'' => Same H10 H'' ∧ acc.length = j ∧ acc = bkV ((l.take j).map fun p => bk.getD p []))
          ⟨Same.refl _, rfl, rfl⟩ (fun j acc H'' _ h => ⟨.of (h.1 _ _ h1a), Nat.le_of_eq h.2.1⟩) ?_ ?_
        · rintro j y' acc H'' ys Nx4 hN4 hx4 hy ⟨sm', hal, ea⟩
          obtain ⟨y'', rfl⟩ := ys1 hy
          obtain ⟨p, ep, rfl⟩ := ivs_get hx4
          have hp := hlt p (List.mem_of_getElem? ep)
          refine ⟨_, rfl, _, rfl, b, bkV bk, (p : Int), sv (bk.getD p []), rfl, rfl, .of (sm' _ _ hba), atI_nat (j := p) (by unfold bkV; rw [List.getElem?_map, getElem?_getD hp]; rfl), hN4 _ _ [some (.int (p : Int))] rfl ⟨sm', by rw [List.length_append, hal]; rfl, ?_⟩⟩
          rw [List.take_succ_eq_append_getElem (List.getElem?_eq_some_iff.mp ep).1, (List.getElem?_eq_some_iff.mp ep).2, List.map_append, ea]
          unfold bkV; rw [List.map_append]; rfl
        rintro acc H'' ⟨sm', hal, ea⟩ D hD
        rw [ivs_len, List.take_length] at ea
        subst ea
        obtain ⟨sb, esb⟩ : ∃ sb, sb = l.map fun p => bk.getD p [] := ⟨_, rfl⟩
        rw [← esb] at hal ⊢
        have sbl : sb.length = l.length := by rw [esb, List.length_map]
        have lne : l ≠ [] := shows_ne (by rw [← erows]; exact hsl)
        have lpos : 1 ≤ l.length := by
          cases l with
          | nil => exact absurd rfl lne
          | cons _ _ => exact Nat.succ_le_succ (Nat.zero_le _)
        have sbn : ∀ x ∈ sb, isNm x ∧ x.length ≤ 3 := fun x hx => by
          rw [esb] at hx
          obtain ⟨p, hp, rfl⟩ := List.mem_map.mp hx
          exact bn _ (List.mem_of_getElem? (getElem?_getD (hlt p hp)))
        have t1 : Same H'' (upd H'' D (.lst (bkV sb))) := Same.upd1 hD
        refine ⟨D, _, rfl, .inl ⟨.of upd_same, fun T hT => ?_⟩⟩
        have t2 := t1.trans (Same.upd1 (o := .tup (bkV sb)) hT)
        have hBs : Bk sb o := ⟨⟨by omega, by omega, fun x hx => (sbn x hx).1⟩, ho1, ho3⟩
        refine ⟨_, rfl, _, rfl, T, sb, o, nm, rfl, upd_same, fit3 hBs (by omega) (fun x hx => (sbn x hx).2) gn, fun H11 s11 => ⟨_, rfl, iteNS ?_ ?_⟩⟩
        · refine sub_makes (bk := bk) (l := l) (by rw [← erows]; exact (shows_iff.mp hsl).2.1) fun p hp t ht => ?_
          rw [esb]
          exact List.mem_map.mpr ⟨p, hp, by rw [List.getD_eq_getElem?_getD, ht]; rfl⟩
        have s11' := (s10'.trans sm').trans (t2.trans s11)
        have h1b := s11 _ _ (t2 _ _ (sm' _ _ h1a))
        have hbb := s11 _ _ (t2 _ _ (sm' _ _ hba))
        clear s11 t2 hT t1 hD sbn sbl hBs esb hal sm' s10' h1a hba
        refine ⟨_, rfl, _, rfl, a1, ivs l, rfl, rfl, .of h1b, fun r hr => ?_⟩
        have t1 : Same H11 (upd H11 r (.lst (ivs l).reverse)) := Same.upd1 hr
        have hrr : (upd H11 r (.lst (ivs l).reverse)) r = some (.lst (ivs l).reverse) := upd_same
        rw [ivs_rev] at t1 hrr ⊢
        generalize upd H11 r (.lst (ivs l.reverse)) = H12 at t1 hrr ⊢
        have hbc := t1 _ _ hbb
        have h1c := t1 _ _ h1b
        refine ⟨r, rfl, ⟨_, .of hrr⟩, ?_⟩
        refine comp_known0 (known_list K r (ivs l.reverse)) [some (.ref b)] 1 (by rw [ivs_len, List.length_reverse]; omega) (fun j acc H'' => Same H12 H'' ∧ acc.length = j ∧ acc = ivs ((l.reverse.take j).map fun p => n - 1 - p))
          ⟨Same.refl _, rfl, rfl⟩ (fun j acc H'' _ h => ⟨.of (h.1 _ _ hrr), Nat.le_of_eq h.2.1⟩) ?_ ?_
        · rintro j y' acc H'' ys Nx4 hN4 hx4 hy ⟨sm', hal, ea⟩
          obtain ⟨y'', rfl⟩ := ys1 hy
          obtain ⟨p, ep, rfl⟩ := ivs_get hx4
          have hp := hlt p (List.mem_reverse.mp (List.mem_of_getElem? ep))
          refine ⟨_, rfl, b, bkV bk, rfl, .inr (.of (sm' _ _ hbc)), _, _, rfl, rfl, _, rfl, _, _, rfl, rfl, hN4 _ _ [some (.int (p : Int))] rfl ⟨sm', by rw [List.length_append, hal]; rfl, ?_⟩⟩
          rw [List.take_succ_eq_append_getElem (List.getElem?_eq_some_iff.mp ep).1, (List.getElem?_eq_some_iff.mp ep).2, List.map_append, ea]
          unfold ivs; rw [List.map_append]
          congr 1
          show [V.int (((bkV bk).length : Int) - 1 - (p : Int))] = [V.int ((n - 1 - p : Nat) : Int)]
          rw [show ((bkV bk).length : Int) - 1 - (p : Int) = ((n - 1 - p : Nat) : Int) by rw [ebk]; omega]
        rintro acc H'' ⟨sm', hal, ea⟩ D hD
        rw [ivs_len, List.take_length] at ea
        have ea' : acc = ivs (turnL n l) := ea
        subst ea'
        have t2 : Same H'' (upd H'' D (.lst (ivs (turnL n l)))) := Same.upd1 hD
        have hD2 : (upd H'' D (.lst (ivs (turnL n l)))) D = some (.lst (ivs (turnL n l))) := upd_same
        generalize upd H'' D (.lst (ivs (turnL n l))) = H13 at t2 hD2 ⊢
        have s13 := s11'.trans ((t1.trans sm').trans t2)
        have hbd := t2 _ _ (sm' _ _ hbc)
        have h1d := t2 _ _ (sm' _ _ h1c)
        clear t2 hD ea hal sm' t1 hrr hr h1b hbb hbc h1c s11' H11 H12
        have tll : (turnL n l).length = l.length := by unfold turnL; rw [List.length_map, List.length_reverse]
        have hBr : Bk bk.reverse o := ⟨⟨by rw [List.length_reverse]; omega, by rw [List.length_reverse]; omega, fun x hx => (bn x (List.mem_reverse.mp hx)).1⟩, ho1, ho3⟩
        refine ⟨_, rfl, _, rfl, b, bkV bk, rfl, rfl, .of hbd, fun r2 hr2 => ?_⟩
        have t2 := Same.upd1 (o := .tup (bkV bk).reverse) hr2
        refine ⟨_, rfl, _, rfl, _, rfl, r2, bk.reverse, o, nm, .ref D, rfl, by rw [upd_same]; unfold bkV; rw [List.map_reverse], hBr, gn.1, .inr ⟨D, turnL n l, rfl, t2 _ _ hD2, by omega, fun H14 s14 => ⟨_, rfl, iteF' ?_ ?_⟩⟩⟩
        · have := shows_turn (bk := bk) (o := o) (nm := nm) (l := l) (by rw [← erows, ← en]; exact hsl)
          rw [List.length_reverse, en, this]; rfl
        have h1e := s14 _ _ (t2 _ _ h1d)
        have hbe := s14 _ _ (t2 _ _ hbd)
        have s14' := s13.trans (t2.trans s14)
        clear s14 t2 hBr hr2 hbd h1d hD2 s13
        refine ⟨_, rfl, _, rfl, _, rfl, _, rfl, _, rfl, a1, ivs l, rfl, rfl, .of h1e, fun r3 hr3 => ?_⟩
        have t3 := Same.upd1 (o := .lst (ivs l).reverse) hr3
        refine ⟨b, bk, o, nm, .ref r3, rfl, t3 _ _ hbe, hB, gn.1, .inr ⟨r3, l.reverse, rfl, by rw [upd_same, ivs_rev], by rw [List.length_reverse]; omega, fun H15 s15 => ⟨_, rfl, ?_⟩⟩⟩
        have s15' := s14'.trans (t3.trans s15)
        rw [← erows, ← en]
        by_cases h1l : 1 < l.length
        · exact iteF' (shows_turned hls h1l) (iteF (hN2 _ _ ⟨⟨_, _, _, rfl⟩, s15'⟩))
        · cases es : showsL rows n l.reverse with
          | false => exact iteF (iteF (hN2 _ _ ⟨⟨_, _, _, rfl⟩, s15'⟩))
          | true =>
            refine iteT ⟨_, rfl, a1, ivs l, rfl, .inl (.of (s15 _ _ (t3 _ _ h1e))), _, _, rfl, rfl, _, rfl, iteF' ?_ (hN2 _ _ ⟨⟨_, _, _, rfl⟩, s15'⟩)⟩
            rw [ivs_len]; exact decide_eq_false (by omega)
      rintro σ H9 ⟨⟨x7, x8, x9, rfl⟩, s9⟩
      have lsg9 := lsg8.same s9
      have hlg9 := s9 _ _ hlg8
      have hb9 := s9 _ _ hb8
      have sm9 := sm8.trans s9
      clear s9 sm8 hb8 hlg8 lsg8 H8
      refine ⟨_, rfl, lg, rfl, ⟨_, .of hlg9⟩, ?_⟩
      refine comp_known0 (known_list K lg xg) [] 1 (by omega) (fun j acc H'' => Same H9 H'' ∧ acc.length = j ∧ PrAt H'' acc (good.take j))
        ⟨Same.refl _, rfl, PrAt.nil⟩ (fun j acc H'' _ h => ⟨.of (h.1 _ _ hlg9), Nat.le_of_eq h.2.1⟩) ?_ ?_
      · rintro j y' acc H'' ys Nx3 hN3 hx3 hy ⟨sm', hal, pr⟩
        obtain ⟨y'', rfl⟩ := ys1 hy
        obtain ⟨a1, l, el, rfl, h1⟩ := lsg9.get hx3
        have h1' := sm' _ _ h1
        refine ⟨_, rfl, a1, ivs l, rfl, .inl (.of h1'), _, rfl, by show 2 ≤ sizeLine; decide, fun T hT => hN3 _ _ [some (.ref a1)] rfl ⟨sm'.trans (Same.upd1 hT), by rw [List.length_append, hal]; rfl, ?_⟩⟩
        rw [List.take_succ_eq_append_getElem (List.getElem?_eq_some_iff.mp el).1, (List.getElem?_eq_some_iff.mp el).2]
        exact (pr.same (Same.upd1 hT)).snoc (by rw [upd_same, ivs_len]) (Same.upd1 hT _ _ h1')
      rintro ts H10 ⟨s10, hts, pr⟩ D hD
      rw [gl, List.take_length] at pr
      have t1 : Same H10 (upd H10 D (.lst ts)) := Same.upd1 hD
      have pr1 := pr.same t1
      refine ⟨D, ts, good.map toI, rfl, .of upd_same, by rw [List.length_map]; exact pr.len, fun i k hk => ?_, ?_, by rw [List.length_map]; omega, fun pm d hpm hpw hd => ?_⟩
      · rw [List.getElem?_map] at hk
        cases e : good[i]? with
        | none => rw [e] at hk; cases hk
        | some l =>
          rw [e] at hk
          have ek : toI l = k := Option.some.inj hk
          obtain ⟨a1, lb, e1, e2, e3⟩ := pr1.at_ i l e
          refine ⟨a1, lb, e1, .of (by rw [e2, ← ek, List.length_map]), .of (by rw [e3, ← ek]; unfold ivs; rw [List.map_map]; rfl)⟩
      · have gnd : good.Nodup := by rw [egood]; exact (subs_nodup n).filter _
        exact List.Pairwise.map toI (fun a b hab h => hab (toI_inj h)) gnd
      rw [List.length_map] at hpm
      have t2 := t1.trans (Same.upd1 (o := .lst (pm.map fun i => ts.getD i .non)) hd)
      have prs := (pr.same t2).perm (pm := pm) fun i hi => List.mem_range.mp (hpm.mem_iff.mp hi)
      have gperm := perm_getD hpm
      have gsort : (pm.map fun i => good.getD i []).Pairwise ltK := List.Pairwise.map _ (fun i j h => by
        unfold keyP at h
        rw [getD_toI, getD_toI] at h
        exact ltP_nat h) hpw
      have hdd : (upd (upd H10 D (.lst ts)) d (.lst (pm.map fun i => ts.getD i .non))) d = some (.lst (pm.map fun i => ts.getD i .non)) := upd_same
      generalize (pm.map fun i => good.getD i []) = gs at prs gperm gsort
      generalize (pm.map fun i => ts.getD i .non) = vs at prs t2 hdd ⊢
      generalize upd (upd H10 D (.lst ts)) d (.lst vs) = H11 at prs t2 hdd ⊢
      have hb11 := t2 _ _ (s10 _ _ hb9)
      have sm11 := sm9.trans (s10.trans t2)
      clear t2 t1 pr1 pr hts s10 hD hd hpw hpm hb9 hlg9 lsg9 sm9 H9 H10
      refine ⟨_, rfl, _, rfl, _, rfl, b, bk, o, nm, rfl, hb11, hB, gn.1, bl2, fun v H12 s12 tn => ?_⟩
      rw [← erows, ← en] at tn
      have prs12 := prs.same s12
      refine ⟨_, rfl, by show 0 ≤ sizeLine; decide, fun e2 he2 => ?_⟩
      have t1 : Same H12 (upd H12 e2 (.lst [])) := Same.upd1 he2
      have prs13 := prs12.same t1
      have hd13 := t1 _ _ (s12 _ _ hdd)
      have he13 : (upd H12 e2 (.lst [])) e2 = some (.lst []) := upd_same
      have hb13 := t1 _ _ (s12 _ _ hb11)
      have sm13 := sm11.trans (s12.trans t1)
      have tn13 : TellsN (upd H12 e2 (.lst [])) v (neededL rows n) := by
        cases e : neededL rows n with
        | none => rw [e] at tn; exact tn
        | some l => rw [e] at tn; obtain ⟨a1, e1, f1⟩ := tn; exact ⟨a1, e1, t1 _ _ f1⟩
      generalize upd H12 e2 (.lst []) = H13 at prs13 hd13 he13 hb13 sm13 tn13 ⊢
      clear t1 he2 prs12 tn s12 prs hdd hb11 sm11 H11 H12
      have nsome : ∀ l, neededL rows n = some l → showsL rows n l = true ∧ ∀ m, showsL rows n m = true → m = l ∨ ltK l m := fun l h => by
        rw [erows, en] at h ⊢; exact needed_some h
      have nnone : neededL rows n = none → ∀ m, showsL rows n m = false := fun h => by
        rw [erows, en] at h ⊢; exact needed_none h
      have mgood : ∀ m, showsL rows n m = true → m ∈ good := fun m h => by rw [egood]; exact List.mem_filter.mpr ⟨(shows_iff.mp h).1, h⟩
      refine ⟨.list (gs.map prD), .list [], ⟨d, _, rfl, .of hd13, reps_pr prs13⟩, ⟨e2, [], rfl, .of he13, rfl⟩, shaped_pr _, rfl, _, rfl, ?_⟩
      cases gs with
      | nil =>
        have g0 : good = [] := List.Perm.eq_nil gperm.symm
        refine iteF' rfl ?_
        have nn : neededL rows n = none := by
          cases e : neededL rows n with
          | none => rfl
          | some l => have := mgood l (nsome l e).1; rw [g0] at this; cases this
        rw [nn] at tn13
        have ev : v = .non := tn13
        subst ev
        refine ⟨.none, .none, rfl, rfl, rfl, rfl, _, rfl, iteF ?_⟩
        refine ⟨_, rfl, _, rfl, _, rfl, by show 0 ≤ sizeLine; decide, fun q hq => ?_⟩
        have u1 := Same.upd1 (o := .lst []) hq
        refine ⟨b, bk, o, nm, .ref q, rfl, u1 _ _ hb13, hB, gn.1, .inr ⟨q, [], rfl, upd_same, Nat.zero_le _, fun H14 s14 => ⟨_, rfl, iteF' shows_nil ?_⟩⟩⟩
        have hb14 := s14 _ _ (u1 _ _ hb13)
        have sm14 := sm13.trans (u1.trans s14)
        refine ⟨_, rfl, _, rfl, _, rfl, _, rfl, b, bkV bk, rfl, .inr (.of hb14), by show 1 ≤ sizeLine; decide, fun q2 hq2 => ?_⟩
        have u2 := Same.upd1 (o := .lst [.int ((bkV bk).length : Int)]) hq2
        refine ⟨b, bk, o, nm, .ref q2, rfl, u2 _ _ hb14, hB, gn.1, .inr ⟨q2, [bk.length], rfl, by rw [upd_same, ebk]; rfl, by show 1 ≤ 50; decide, fun H15 s15 => ⟨_, rfl, iteF' shows_out ?_⟩⟩⟩
        have hb15 := s15 _ _ (u2 _ _ hb14)
        have sm15 := sm14.trans (u2.trans s15)
        refine ⟨_, rfl, _, rfl, _, rfl, b, bk, o, nm, .non, rfl, hb15, hB, gn.1, .inl ⟨rfl, fun H16 s16 => ⟨_, rfl, iteF (hN _ _ ⟨⟨_, _, _, _, _, _, _, _, rfl⟩, sm15.trans s16⟩)⟩⟩⟩
      | cons g gr =>
        refine iteT' rfl ?_
        have gg : g ∈ good := gperm.mem_iff.mp (List.mem_cons_self ..)
        obtain ⟨a0, lb, f1, f2, f3⟩ := prs13.at_ 0 g rfl
        refine ⟨_, rfl, d, vs, 0, .ref a0, rfl, rfl, .of hd13, atI_nat (j := 0) f1, a0, _, 1, .ref lb, rfl, rfl, .of f2, atI_nat (j := 1) rfl, ?_⟩
        have nn : neededL rows n = some g := by
          cases e : neededL rows n with
          | none => have := nnone e g; rw [(gm g gg).1] at this; cases this
          | some l =>
            obtain ⟨n1, n2⟩ := nsome l e
            rcases n2 g (gm g gg).1 with z | z
            · rw [z]
            · rcases List.mem_cons.mp (gperm.mem_iff.mpr (mgood l n1)) with z2 | z2
              · rw [z2]
              · exact absurd (ltK_asym z (List.rel_of_pairwise_cons gsort z2)) id
        rw [nn] at tn13
        obtain ⟨av, ev, hv⟩ := tn13
        subst ev
        refine ⟨intsD g, intsD g, rep_ivs hv, rep_ivs f3, (shaped_intsD g).1, (shaped_intsD g).1, _, rfl, iteF' ?_ ?_⟩
        · show (!PyData.eqv (intsD g) (intsD g)) = false
          rw [eqv_intsD, decide_eq_true rfl]; rfl
        refine ⟨_, rfl, _, rfl, _, rfl, by show 0 ≤ sizeLine; decide, fun q hq => ?_⟩
        have u1 := Same.upd1 (o := .lst []) hq
        refine ⟨b, bk, o, nm, .ref q, rfl, u1 _ _ hb13, hB, gn.1, .inr ⟨q, [], rfl, upd_same, Nat.zero_le _, fun H14 s14 => ⟨_, rfl, iteF' shows_nil ?_⟩⟩⟩
        have hb14 := s14 _ _ (u1 _ _ hb13)
        have sm14 := sm13.trans (u1.trans s14)
        refine ⟨_, rfl, _, rfl, _, rfl, _, rfl, b, bkV bk, rfl, .inr (.of hb14), by show 1 ≤ sizeLine; decide, fun q2 hq2 => ?_⟩
        have u2 := Same.upd1 (o := .lst [.int ((bkV bk).length : Int)]) hq2
        refine ⟨b, bk, o, nm, .ref q2, rfl, u2 _ _ hb14, hB, gn.1, .inr ⟨q2, [bk.length], rfl, by rw [upd_same, ebk]; rfl, by show 1 ≤ 50; decide, fun H15 s15 => ⟨_, rfl, iteF' shows_out ?_⟩⟩⟩
        have hb15 := s15 _ _ (u2 _ _ hb14)
        have sm15 := sm14.trans (u2.trans s15)
        refine ⟨_, rfl, _, rfl, _, rfl, b, bk, o, nm, .non, rfl, hb15, hB, gn.1, .inl ⟨rfl, fun H16 s16 => ⟨_, rfl, iteF (hN _ _ ⟨⟨_, _, _, _, _, _, _, _, rfl⟩, sm15.trans s16⟩)⟩⟩⟩
    · rintro σ H' ⟨⟨x3, x4, x5, x6, x7, x8, x9, x10, rfl⟩, sm⟩
      exact k _
end
end Kn
end
section
set_option Elab.async false
set_option linter.all false
set_option maxRecDepth 100000
set_option maxHeartbeats 4000000
namespace Kn
open PySem L2
def Has (K : PySem.W.Frag) (x : Str) (st : Stmt) (ps : List Str) : Prop :=
  ∃ (f : Addr) (fd : FuncData), PySem.W.nsIn K mainGlobals x = some (some (.ref f)) ∧ Fun K x x st f fd ∧ PySem.W.keepIn K (.ref f) = true ∧ Binds K fd ps []
theorem has_mk {K : PySem.W.Frag} {x : Str} {st : Stmt} {f : Addr} {oc kV dc pm cd ct : Value} {od an : Option Addr} {sl : Array (Option Value)} (ps : List Str)
    (hb : ∀ (fd : FuncData), Fun K x x st f fd → Binds K fd ps [])
    (a : PySem.W.nsIn K mainGlobals x = some (some (.ref f))) (l : K.lookup f = some ⟨oc, od, .func (PySem.W.fnOf x x (defArgs st) (defBody st) (defScope st) .none kV dc pm an cd ct), sl⟩) (c : PySem.W.codeIn K cd x = true) (k : PySem.W.keepIn K (.ref f) = true) : Has K x st ps :=
  ⟨f, _, a, fun_mk (st := st) l c k, k, hb _ (fun_mk (st := st) l c k)⟩
structure Top (K : PySem.W.Frag) : Prop where
  is_name : Has K "is_name" sIsName ["thing"]
  is_book : Has K "is_book" sIsBook ["thing"]
  is_whole : Has K "is_whole" sIsWhole ["thing", "least", "most"]
  is_order : Has K "is_order" sIsOrder ["thing"]
  is_rising : Has K "is_rising" sRising ["things"]
  need_book : Has K "need_book" sNeedBook ["thing"]
  need_order : Has K "need_order" sNeedOrder ["thing"]
  need_name : Has K "need_name" sNeedName ["thing"]
  end_of : Has K "end_of" sEnd ["text", "order"]
  ends : Has K "ends_and_letters" sEnds ["name", "order"]
  rows : Has K "counted_rows" sRows ["book", "order"]
  gcd : Has K "greatest_divisor" sGcd ["one", "other"]
  low : Has K "lowest" sLow ["up", "down"]
  times : Has K "times" sTimes ["one", "other"]
  is_less : Has K "is_less" sLess ["one", "other"]
  part_in : Has K "part_in" sPart ["row", "letter"]
  stepsR : Has K "steps_by_rows" sStepsR ["rows", "order", "name"]
  shareR : Has K "share_by_rows" sShareR ["rows", "order", "name"]
  share : Has K "share" sShare ["book", "order", "name"]
  makes : Has K "makes" sMakes ["book", "order", "name"]
  plw : Has K "places_with" sPlW ["book", "order", "step"]
  pbs : Has K "places_by_step" sPbs ["book", "order", "name"]
  anyhas : Has K "any_has" sAnyHas ["having", "places"]
  alone : Has K "alone_make" sAlone ["by_step", "places"]
  longer : Has K "longer_lists" sLonger ["lists", "many"]
  needed : Has K "needed" sNeeded ["book", "order", "name"]
  ispl : Has K "is_list_of_places" sIsPl ["thing", "many"]
  shows : Has K "shows" sShows ["book", "order", "name", "thing"]
  cell : Has K "_law_cell" sCell ["_law_script", "_law_k"]
  drawn : Has K "_law_drawn" sDrawn ["_law_script", "_law_k", "_law_many"]
  lname : Has K "_law_name" sName ["_law_script", "_law_at", "_law_most"]
  lbook : Has K "_law_book" sBook ["_law_script", "_law_at", "_law_many", "_law_most"]
  letters : ∃ t, PySem.W.nsIn K mainGlobals "LETTERS" = some (some (.str letters t))
  ml : ∃ t, PySem.W.nsIn K mainGlobals "MOST_LETTERS" = some (some (.int 8 t))
  mn : ∃ t, PySem.W.nsIn K mainGlobals "MOST_NAMES" = some (some (.int 8 t))
  mo : ∃ t, PySem.W.nsIn K mainGlobals "MOST_ORDER" = some (some (.int 3 t))
  ib : PySem.W.kitOne K (.type "int") (.type "bool") = some false
  nought : ∃ a, PySem.W.nsIn K mainGlobals "NOUGHT" = some (some (.ref a)) ∧ ∀ H, SqT K H a [.int 0, .int 1]
  whole : ∃ a, PySem.W.nsIn K mainGlobals "WHOLE" = some (some (.ref a)) ∧ ∀ H, SqT K H a [.int 1, .int 1]
  zlen : PySem.W.nsIn K mainGlobals "len" = some none
  zrange : PySem.W.nsIn K mainGlobals "range" = some none
  zall : PySem.W.nsIn K mainGlobals "all" = some none
  zisinstance : PySem.W.nsIn K mainGlobals "isinstance" = some none
  zstr : PySem.W.nsIn K mainGlobals "str" = some none
  ztuple : PySem.W.nsIn K mainGlobals "tuple" = some none
  zint : PySem.W.nsIn K mainGlobals "int" = some none
  zbool : PySem.W.nsIn K mainGlobals "bool" = some none
  zsorted : PySem.W.nsIn K mainGlobals "sorted" = some none
  zsum : PySem.W.nsIn K mainGlobals "sum" = some none
  zmin : PySem.W.nsIn K mainGlobals "min" = some none
  zlist : PySem.W.nsIn K mainGlobals "list" = some none
  zenumerate : PySem.W.nsIn K mainGlobals "enumerate" = some none
  zany : PySem.W.nsIn K mainGlobals "any" = some none
  zzip : PySem.W.nsIn K mainGlobals "zip" = some none
theorem letters_eq : (Str.ofString "abcdefghijklmnopqrstuvwxyz") = letters := by decide +kernel
theorem lets_mk {K : PySem.W.Frag} {t : Tok} (h : PySem.W.nsIn K mainGlobals "LETTERS" = some (some (.str (Str.ofString "abcdefghijklmnopqrstuvwxyz") t))) : ∃ t, PySem.W.nsIn K mainGlobals "LETTERS" = some (some (.str letters t)) := by
  rw [letters_eq] at h; exact ⟨t, h⟩
theorem int_mk {K : PySem.W.Frag} {x : Str} {i : Int} {t : Tok} (h : PySem.W.nsIn K mainGlobals x = some (some (.int i t))) : ∃ t, PySem.W.nsIn K mainGlobals x = some (some (.int i t)) := ⟨t, h⟩
theorem two_mk {K : PySem.W.Frag} {x : Str} {a : Addr} {i j : Int} {t t' : Tok} {n : Nat} {dd : Option Addr} {sl : Array (Option Value)} (h : PySem.W.nsIn K mainGlobals x = some (some (.ref a)))
    (l : K.lookup a = some ⟨.type "tuple", dd, .seq #[.int i t, .int j t'] n, sl⟩) : ∃ a, PySem.W.nsIn K mainGlobals x = some (some (.ref a)) ∧ ∀ H, SqT K H a [.int i, .int j] :=
  ⟨a, h, fun H => .inr ⟨_, _, _, l, rfl, rfl, by show 2 ≤ sizeLine; decide, .cons ⟨t, rfl⟩ (.cons ⟨t', rfl⟩ .nil)⟩⟩
section
variable {P : Program} {w : World} {K : PySem.W.Frag} {mg : Str → Option Value} {base : Heap} {h : Heap}
theorem cal_of {x : Str} {st : Stmt} {ps : List Str} {k : Nat} {sp : Sp} (X : K.In h) (G : h.Ns mainGlobals mg) (H : Has K x st ps) (ok : ∀ (f : Addr) (fd : FuncData), Fun K x x st f fd → FnOk P w K mg base CX0 k f fd ps sp) : Cal P w K mg base k x ps sp := by
  obtain ⟨f, fd, a, F, kp, b⟩ := H
  exact ⟨f, fd, ok f fd F, PySem.W.mg_of X G a, kp, b⟩
theorem law_mk (X : K.In h) (G : h.Ns mainGlobals mg) (T : Top K) {f : Addr} {fd : FuncData} (F : Fun K "law" "law" sLaw f fd) : FnOk P w K mg base CX0 8 f fd ["_law_script"] (spLaw K) := by
  have B : Blt mg := ⟨PySem.W.mg_none_of X G T.zlen, PySem.W.mg_none_of X G T.zrange, PySem.W.mg_none_of X G T.zall, PySem.W.mg_none_of X G T.zisinstance, PySem.W.mg_none_of X G T.zstr, PySem.W.mg_none_of X G T.ztuple, PySem.W.mg_none_of X G T.zint, PySem.W.mg_none_of X G T.zbool, PySem.W.mg_none_of X G T.zsorted, PySem.W.mg_none_of X G T.zsum, PySem.W.mg_none_of X G T.zmin⟩
  have C : Cst K mg := ⟨let ⟨t, e⟩ := T.letters; ⟨t, PySem.W.mg_of X G e⟩, let ⟨t, e⟩ := T.ml; ⟨t, PySem.W.mg_of X G e⟩, let ⟨t, e⟩ := T.mn; ⟨t, PySem.W.mg_of X G e⟩, let ⟨t, e⟩ := T.mo; ⟨t, PySem.W.mg_of X G e⟩, T.ib⟩
  have C2 : Cst2 K mg := ⟨let ⟨a, e, q⟩ := T.nought; ⟨a, PySem.W.mg_of X G e, q⟩, let ⟨a, e, q⟩ := T.whole; ⟨a, PySem.W.mg_of X G e, q⟩⟩
  have hli := PySem.W.mg_none_of X G T.zlist
  have hen := PySem.W.mg_none_of X G T.zenumerate
  have hany := PySem.W.mg_none_of X G T.zany
  have hz := PySem.W.mg_none_of X G T.zzip
  have cEnd := cal_of (P := P) (w := w) (base := base) X G T.end_of fun f fd F => ok_end F
  have cEnds := cal_of (P := P) (w := w) (base := base) X G T.ends fun f fd F => ok_ends F B cEnd
  have cIsName := cal_of (P := P) (w := w) (base := base) X G T.is_name fun f fd F => ok_isname F B C
  have cIsBook := cal_of (P := P) (w := w) (base := base) X G T.is_book fun f fd F => ok_isbook F B C cIsName
  have cIsWhole := cal_of (P := P) (w := w) (base := base) X G T.is_whole fun f fd F => ok_wholeI F B C
  have cIsOrder := cal_of (P := P) (w := w) (base := base) X G T.is_order fun f fd F => ok_isorder F C (cIsWhole.imp whole_imp)
  have cRise := cal_of (P := P) (w := w) (base := base) X G T.is_rising fun f fd F => ok_rising F B hz
  have cNB := cal_of (P := P) (w := w) (base := base) X G T.need_book fun f fd F => ok_needbook F cIsBook
  have cNO := cal_of (P := P) (w := w) (base := base) X G T.need_order fun f fd F => ok_needorder F cIsOrder
  have cNN := cal_of (P := P) (w := w) (base := base) X G T.need_name fun f fd F => ok_needname F cIsName
  have cRows := cal_of (P := P) (w := w) (base := base) X G T.rows fun f fd F => ok_rows F cEnds
  have N : Needs P w K mg base := ⟨cNB, cNO, cNN, cRows⟩
  have cGcd := cal_of (P := P) (w := w) (base := base) X G T.gcd fun f fd F => ok_gcd F
  have cLow := cal_of (P := P) (w := w) (base := base) X G T.low fun f fd F => ok_low F cGcd
  have cTimes := cal_of (P := P) (w := w) (base := base) X G T.times fun f fd F => ok_times F cLow
  have cLess := cal_of (P := P) (w := w) (base := base) X G T.is_less fun f fd F => ok_less F
  have cPart := cal_of (P := P) (w := w) (base := base) X G T.part_in fun f fd F => ok_part F B C2 cLow
  have cStR := cal_of (P := P) (w := w) (base := base) X G T.stepsR fun f fd F => ok_stepsR F cEnds cPart
  have cShR := cal_of (P := P) (w := w) (base := base) X G T.shareR fun f fd F => ok_shareR F C2 cStR cTimes
  have cSh := cal_of (P := P) (w := w) (base := base) X G T.share fun f fd F => ok_share F N cShR
  have cMk := cal_of (P := P) (w := w) (base := base) X G T.makes fun f fd F => ok_makes F C2 cSh cLess
  have cPlW := cal_of (P := P) (w := w) (base := base) X G T.plw fun f fd F => ok_plw F hen cEnds
  have cPbs := cal_of (P := P) (w := w) (base := base) X G T.pbs fun f fd F => ok_pbs F cEnds cPlW
  have cAny := cal_of (P := P) (w := w) (base := base) X G T.anyhas fun f fd F => ok_anyhas F hany
  have cAlone := cal_of (P := P) (w := w) (base := base) X G T.alone fun f fd F => ok_alone F B cAny
  have cLong := cal_of (P := P) (w := w) (base := base) X G T.longer fun f fd F => ok_longer F B
  have cNeed := cal_of (P := P) (w := w) (base := base) X G T.needed fun f fd F => ok_needed F B N cPbs cAlone cLong
  have cIsPl := cal_of (P := P) (w := w) (base := base) X G T.ispl fun f fd F => ok_ispl F B hli cIsWhole cRise
  have cShow := cal_of (P := P) (w := w) (base := base) X G T.shows fun f fd F => ok_shows F B hany N cIsPl cPbs cAlone
  have cCell := cal_of (P := P) (w := w) (base := base) X G T.cell fun f fd F => ok_cell F B
  have cDrawn := cal_of (P := P) (w := w) (base := base) X G T.drawn fun f fd F => ok_drawn F cCell
  have cName := cal_of (P := P) (w := w) (base := base) X G T.lname fun f fd F => ok_name F B cDrawn
  have cBook := cal_of (P := P) (w := w) (base := base) X G T.lbook fun f fd F => ok_book F B cDrawn cName
  exact ok_law F B ⟨cDrawn, cName, cBook, cMk, cShow, cNeed⟩
end
theorem all_mk {l : PySem.W.OpenLaw} {w : World} {K : PySem.W.Frag} {h : Heap} {mg : Str → Option Value} {fa f4 : Addr} (X : K.In h) (G : h.Ns mainGlobals mg) (hfa : mg "law" = some (.ref fa))
    {od4 an4 : Option Addr} {sl4 : Array (Option Value)} {oc4 kV4 dc4 pm4 cd4 ct4 : Value} (T : Top K)
    (a4 : PySem.W.nsIn K mainGlobals "law" = some (some (.ref f4))) (l4 : K.lookup f4 = some ⟨oc4, od4, .func (PySem.W.fnOf "law" "law" (defArgs sLaw) (defBody sLaw) (defScope sLaw) .none kV4 dc4 pm4 an4 cd4 ct4), sl4⟩) (c4 : PySem.W.codeIn K cd4 "law" = true) (k4 : PySem.W.keepIn K (.ref f4) = true) :
    ∃ fd : FuncData, (∀ (s : Shared) (v : Value), BindsTo s fd ⟨[v], []⟩ [("_law_script", v)]) ∧ ∀ base : Heap, K.In base → base.Ns mainGlobals mg → FnOk l.prog w K mg base CX0 8 fa fd ["_law_script"] (spLaw K) := by
  have e := hfa.symm.trans (PySem.W.mg_of X G a4)
  cases e
  have F4 := fun_mk (st := sLaw) l4 c4 k4
  exact ⟨PySem.W.fnOf "law" "law" (defArgs sLaw) (defBody sLaw) (defScope sLaw) .none kV4 dc4 pm4 an4 cd4 ct4, fun s v => .of_eq rfl, fun base _ _ => law_mk X G T F4⟩
theorem walk {l : PySem.W.OpenLaw} {q : Program} {loose : List Str} {XP : (Str → Option Value) → Heap → Prop} {YP : World → Heap → Prop} {d : DefRec} {K : Params → PySem.W.Frag} (hn : l.most = some 63) (hdf : d.params.defaults = [])
    (hY : ∀ (w : World) (h : Heap), YP w h → (K w.params).In h)
    (F : ∀ (w : World) (mg : Str → Option Value) (fa : Addr) (h : Heap), (K w.params).In h → h.Ns mainGlobals mg → mg d.name = some (.ref fa) →
      ∃ fd : FuncData, (∀ (s : Shared) (u : Value), BindsTo s fd ⟨[u], []⟩ [("_law_script", u)]) ∧ ∀ base : Heap, (K w.params).In base → base.Ns mainGlobals mg → FnOk l.prog w (K w.params) mg base CX0 8 fa fd ["_law_script"] (spLaw (K w.params))) :
    PySem.W.WalkO q loose XP YP l.row.toRowW d [] (fun f vs => PySem.call f vs) :=
  L2.walk_of (n := 63) (k := 8) (x := "_law_script") (CX := fun _ => CX0) (sp := fun w => spLaw (K w.params)) hn (by decide) hdf ⟨rfl, by decide, by decide⟩ hY F (fun _ _ a ns hl _ hS => ⟨a, ns, rfl, hS, hl, fun _ => rfl⟩) fun _ _ _ _ _ z => z
end Kn
end
section
set_option Elab.async false
set_option linter.all false
open PySem PySem.W PyProof.Rows
set_option maxRecDepth 100000 in
set_option maxHeartbeats 0 in
theorem PySem.Challenge.cw_kinnames_k52_whole_shows_holds : PySem.Challenge.rw_kinnames_k52_whole_shows.Holds := by
  w_on; o_law; k_head; (case hw => w_witness2)
  k_fill
  refine Kn.walk (l := PySem.Challenge.rw_kinnames_k52_whole_shows) rfl rfl (fun w h Y => PySem.W.kIn_of Y) ?F
  case F =>
    intro w mg fa h KX G hmg
    refine' Kn.all_mk KX G hmg ?T ?a4 ?l4 ?c4 ?k4
    (case T =>
      refine' ⟨?is_name, ?is_book, ?is_whole, ?is_order, ?is_rising, ?need_book, ?need_order, ?need_name, ?end_of, ?ends, ?rows, ?gcd, ?low, ?times, ?is_less, ?part_in, ?stepsR, ?shareR, ?share, ?makes, ?plw, ?pbs, ?anyhas, ?alone, ?longer, ?needed, ?ispl, ?shows, ?cell, ?drawn, ?lname, ?lbook, ?letters, ?ml, ?mn, ?mo, ?ib, ?nought, ?whole, ?zlen, ?zrange, ?zall, ?zisinstance, ?zstr, ?ztuple, ?zint, ?zbool, ?zsorted, ?zsum, ?zmin, ?zlist, ?zenumerate, ?zany, ?zzip⟩
      (case is_name => refine' Kn.has_mk _ (fun fd F => F.binds fun _ _ _ _ _ _ us hl => match us, hl with | [_], _ => rfl) ?kna ?knl ?knc ?knk; (case kna => k_is); (case knl => k_is); (case knc => k_is); (case knk => k_is))
      (case is_book => refine' Kn.has_mk _ (fun fd F => F.binds fun _ _ _ _ _ _ us hl => match us, hl with | [_], _ => rfl) ?kna ?knl ?knc ?knk; (case kna => k_is); (case knl => k_is); (case knc => k_is); (case knk => k_is))
      (case is_whole => refine' Kn.has_mk _ (fun fd F => F.binds fun _ _ _ _ _ _ us hl => match us, hl with | [_, _, _], _ => rfl) ?kna ?knl ?knc ?knk; (case kna => k_is); (case knl => k_is); (case knc => k_is); (case knk => k_is))
      (case is_order => refine' Kn.has_mk _ (fun fd F => F.binds fun _ _ _ _ _ _ us hl => match us, hl with | [_], _ => rfl) ?kna ?knl ?knc ?knk; (case kna => k_is); (case knl => k_is); (case knc => k_is); (case knk => k_is))
      (case is_rising => refine' Kn.has_mk _ (fun fd F => F.binds fun _ _ _ _ _ _ us hl => match us, hl with | [_], _ => rfl) ?kna ?knl ?knc ?knk; (case kna => k_is); (case knl => k_is); (case knc => k_is); (case knk => k_is))
      (case need_book => refine' Kn.has_mk _ (fun fd F => F.binds fun _ _ _ _ _ _ us hl => match us, hl with | [_], _ => rfl) ?kna ?knl ?knc ?knk; (case kna => k_is); (case knl => k_is); (case knc => k_is); (case knk => k_is))
      (case need_order => refine' Kn.has_mk _ (fun fd F => F.binds fun _ _ _ _ _ _ us hl => match us, hl with | [_], _ => rfl) ?kna ?knl ?knc ?knk; (case kna => k_is); (case knl => k_is); (case knc => k_is); (case knk => k_is))
      (case need_name => refine' Kn.has_mk _ (fun fd F => F.binds fun _ _ _ _ _ _ us hl => match us, hl with | [_], _ => rfl) ?kna ?knl ?knc ?knk; (case kna => k_is); (case knl => k_is); (case knc => k_is); (case knk => k_is))
      (case end_of => refine' Kn.has_mk _ (fun fd F => F.binds fun _ _ _ _ _ _ us hl => match us, hl with | [_, _], _ => rfl) ?kna ?knl ?knc ?knk; (case kna => k_is); (case knl => k_is); (case knc => k_is); (case knk => k_is))
      (case ends => refine' Kn.has_mk _ (fun fd F => F.binds fun _ _ _ _ _ _ us hl => match us, hl with | [_, _], _ => rfl) ?kna ?knl ?knc ?knk; (case kna => k_is); (case knl => k_is); (case knc => k_is); (case knk => k_is))
      (case rows => refine' Kn.has_mk _ (fun fd F => F.binds fun _ _ _ _ _ _ us hl => match us, hl with | [_, _], _ => rfl) ?kna ?knl ?knc ?knk; (case kna => k_is); (case knl => k_is); (case knc => k_is); (case knk => k_is))
      (case gcd => refine' Kn.has_mk _ (fun fd F => F.binds fun _ _ _ _ _ _ us hl => match us, hl with | [_, _], _ => rfl) ?kna ?knl ?knc ?knk; (case kna => k_is); (case knl => k_is); (case knc => k_is); (case knk => k_is))
      (case low => refine' Kn.has_mk _ (fun fd F => F.binds fun _ _ _ _ _ _ us hl => match us, hl with | [_, _], _ => rfl) ?kna ?knl ?knc ?knk; (case kna => k_is); (case knl => k_is); (case knc => k_is); (case knk => k_is))
      (case times => refine' Kn.has_mk _ (fun fd F => F.binds fun _ _ _ _ _ _ us hl => match us, hl with | [_, _], _ => rfl) ?kna ?knl ?knc ?knk; (case kna => k_is); (case knl => k_is); (case knc => k_is); (case knk => k_is))
      (case is_less => refine' Kn.has_mk _ (fun fd F => F.binds fun _ _ _ _ _ _ us hl => match us, hl with | [_, _], _ => rfl) ?kna ?knl ?knc ?knk; (case kna => k_is); (case knl => k_is); (case knc => k_is); (case knk => k_is))
      (case part_in => refine' Kn.has_mk _ (fun fd F => F.binds fun _ _ _ _ _ _ us hl => match us, hl with | [_, _], _ => rfl) ?kna ?knl ?knc ?knk; (case kna => k_is); (case knl => k_is); (case knc => k_is); (case knk => k_is))
      (case stepsR => refine' Kn.has_mk _ (fun fd F => F.binds fun _ _ _ _ _ _ us hl => match us, hl with | [_, _, _], _ => rfl) ?kna ?knl ?knc ?knk; (case kna => k_is); (case knl => k_is); (case knc => k_is); (case knk => k_is))
      (case shareR => refine' Kn.has_mk _ (fun fd F => F.binds fun _ _ _ _ _ _ us hl => match us, hl with | [_, _, _], _ => rfl) ?kna ?knl ?knc ?knk; (case kna => k_is); (case knl => k_is); (case knc => k_is); (case knk => k_is))
      (case share => refine' Kn.has_mk _ (fun fd F => F.binds fun _ _ _ _ _ _ us hl => match us, hl with | [_, _, _], _ => rfl) ?kna ?knl ?knc ?knk; (case kna => k_is); (case knl => k_is); (case knc => k_is); (case knk => k_is))
      (case makes => refine' Kn.has_mk _ (fun fd F => F.binds fun _ _ _ _ _ _ us hl => match us, hl with | [_, _, _], _ => rfl) ?kna ?knl ?knc ?knk; (case kna => k_is); (case knl => k_is); (case knc => k_is); (case knk => k_is))
      (case plw => refine' Kn.has_mk _ (fun fd F => F.binds fun _ _ _ _ _ _ us hl => match us, hl with | [_, _, _], _ => rfl) ?kna ?knl ?knc ?knk; (case kna => k_is); (case knl => k_is); (case knc => k_is); (case knk => k_is))
      (case pbs => refine' Kn.has_mk _ (fun fd F => F.binds fun _ _ _ _ _ _ us hl => match us, hl with | [_, _, _], _ => rfl) ?kna ?knl ?knc ?knk; (case kna => k_is); (case knl => k_is); (case knc => k_is); (case knk => k_is))
      (case anyhas => refine' Kn.has_mk _ (fun fd F => F.binds fun _ _ _ _ _ _ us hl => match us, hl with | [_, _], _ => rfl) ?kna ?knl ?knc ?knk; (case kna => k_is); (case knl => k_is); (case knc => k_is); (case knk => k_is))
      (case alone => refine' Kn.has_mk _ (fun fd F => F.binds fun _ _ _ _ _ _ us hl => match us, hl with | [_, _], _ => rfl) ?kna ?knl ?knc ?knk; (case kna => k_is); (case knl => k_is); (case knc => k_is); (case knk => k_is))
      (case longer => refine' Kn.has_mk _ (fun fd F => F.binds fun _ _ _ _ _ _ us hl => match us, hl with | [_, _], _ => rfl) ?kna ?knl ?knc ?knk; (case kna => k_is); (case knl => k_is); (case knc => k_is); (case knk => k_is))
      (case needed => refine' Kn.has_mk _ (fun fd F => F.binds fun _ _ _ _ _ _ us hl => match us, hl with | [_, _, _], _ => rfl) ?kna ?knl ?knc ?knk; (case kna => k_is); (case knl => k_is); (case knc => k_is); (case knk => k_is))
      (case ispl => refine' Kn.has_mk _ (fun fd F => F.binds fun _ _ _ _ _ _ us hl => match us, hl with | [_, _], _ => rfl) ?kna ?knl ?knc ?knk; (case kna => k_is); (case knl => k_is); (case knc => k_is); (case knk => k_is))
      (case shows => refine' Kn.has_mk _ (fun fd F => F.binds fun _ _ _ _ _ _ us hl => match us, hl with | [_, _, _, _], _ => rfl) ?kna ?knl ?knc ?knk; (case kna => k_is); (case knl => k_is); (case knc => k_is); (case knk => k_is))
      (case cell => refine' Kn.has_mk _ (fun fd F => F.binds fun _ _ _ _ _ _ us hl => match us, hl with | [_, _], _ => rfl) ?kna ?knl ?knc ?knk; (case kna => k_is); (case knl => k_is); (case knc => k_is); (case knk => k_is))
      (case drawn => refine' Kn.has_mk _ (fun fd F => F.binds fun _ _ _ _ _ _ us hl => match us, hl with | [_, _, _], _ => rfl) ?kna ?knl ?knc ?knk; (case kna => k_is); (case knl => k_is); (case knc => k_is); (case knk => k_is))
      (case lname => refine' Kn.has_mk _ (fun fd F => F.binds fun _ _ _ _ _ _ us hl => match us, hl with | [_, _, _], _ => rfl) ?kna ?knl ?knc ?knk; (case kna => k_is); (case knl => k_is); (case knc => k_is); (case knk => k_is))
      (case lbook => refine' Kn.has_mk _ (fun fd F => F.binds fun _ _ _ _ _ _ us hl => match us, hl with | [_, _, _, _], _ => rfl) ?kna ?knl ?knc ?knk; (case kna => k_is); (case knl => k_is); (case knc => k_is); (case knk => k_is))
      (case letters => refine' Kn.lets_mk ?knq; (case knq => k_is))
      (case ml => refine' Kn.int_mk ?knq; (case knq => k_is))
      (case mn => refine' Kn.int_mk ?knq; (case knq => k_is))
      (case mo => refine' Kn.int_mk ?knq; (case knq => k_is))
      (case ib => first | rfl | kernel_rfl | decide +kernel)
      (case nought => refine' Kn.two_mk ?knq ?knr; (case knq => k_is); (case knr => k_is))
      (case whole => refine' Kn.two_mk ?knq ?knr; (case knq => k_is); (case knr => k_is))
      (case zlen => k_is)
      (case zrange => k_is)
      (case zall => k_is)
      (case zisinstance => k_is)
      (case zstr => k_is)
      (case ztuple => k_is)
      (case zint => k_is)
      (case zbool => k_is)
      (case zsorted => k_is)
      (case zsum => k_is)
      (case zmin => k_is)
      (case zlist => k_is)
      (case zenumerate => k_is)
      (case zany => k_is)
      (case zzip => k_is))
    (case a4 => k_is); (case l4 => k_is); (case c4 => k_is); (case k4 => k_is)
end
