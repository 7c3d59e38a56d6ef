/-
  A statement whose order is open, all of whose operations but a forced tail only make memory: what is known of each value, whatever else has been made since, is known at the tail. One look at each operation serves every order.
-/
import Derived.Test.YtkpbkahmbbkcdaaK
import Derived.StillTail
import Derived.Lib.Hide
namespace Go.Proofs.Ytkpbkahmbbkcdaa
open Go.ChangeShapes Go.WideShapes Go.ChangeAt Go.RowKit

/-- What one operation does: its value and the world behind it meet R. -/
def OpOk (P : Program) (o : Oper) (ev : Operand → Value) (w : World) (R : Value → World → Prop) : Prop :=
  match (execOp ev o).run P w with
  | .ok (.value v) w' => R v w'
  | .ok (.enter f args) w' => Calls P f args w' fun e w'' => ∃ v, e = .returned v ∧ R v w''
  | _ => False
theorem wp_of_opOk {P : Program} {o : Oper} {a : Act} {w : World} {R : Value → World → Prop} {next : Act → World → Prop} {Q : Exit → Act → World → Prop} (h : OpOk P o a.eval w R) (hn : ∀ v w', R v w' → next (a.put o.dst v) w') : o.wp P a w next Q := by
  unfold OpOk at h
  unfold Oper.wp
  generalize (execOp a.eval o).run P w = r at *
  cases r with
  | ok n w' =>
    cases n <;> simp only [Oper.upon] at h ⊢
    case value u => exact hn _ _ h
    case enter f args => exact h.mono fun e w'' ⟨v, he, hr⟩ => by subst he; exact hn _ _ hr
  | halt x w' => exact h.elim
theorem opOk_hid {P : Program} {o : Oper} {ev : Operand → Value} {w : World} {Rq : Value → World → Prop} (h : ∀ Rp : Value → World → Prop, Hid (Rp = Rq) → OpOk P o ev w Rp) : OpOk P o ev w Rq := h Rq (Lib.hid rfl)
/-- The values laid one after the other. -/
def putAll (vs : Nat → Value) : List Oper → Nat → Act → Act
  | [], _, a => a
  | o :: l, k, a => putAll vs l (k + 1) (a.put o.dst (vs k))
theorem put_size (a : Act) (d : Option Tmp) (v : Value) : (a.put d v).tmps.size = a.tmps.size := by cases d <;> simp [Act.put]
theorem put_defers' (a : Act) (d : Option Tmp) (v : Value) : (a.put d v).defers = a.defers := by cases d <;> simp [Act.put]
theorem put_get_ne (a : Act) (d : Option Tmp) (v : Value) (t : Tmp) (h : d ≠ some t) : (a.put d v).tmps[t]? = a.tmps[t]? := by
  cases d with
  | none => rfl
  | some u =>
    have : u ≠ t := fun e => h (by rw [e])
    simp [Act.put, Array.getElem?_setIfInBounds_ne this]
theorem put_get_eq (a : Act) (t : Tmp) (v : Value) (h : t < a.tmps.size) : (a.put (some t) v).tmps[t]? = some v := by
  simp [Act.put, h]
theorem putAll_size (vs : Nat → Value) : ∀ (l : List Oper) (k : Nat) (a : Act), (putAll vs l k a).tmps.size = a.tmps.size ∧ (putAll vs l k a).defers = a.defers
  | [], _, _ => ⟨rfl, rfl⟩
  | o :: l, k, a => by
    have h := putAll_size vs l (k + 1) (a.put o.dst (vs k))
    exact ⟨h.1.trans (put_size _ _ _), h.2.trans (put_defers' _ _ _)⟩
theorem putAll_ne (vs : Nat → Value) (t : Tmp) : ∀ (l : List Oper) (k : Nat) (a : Act), (∀ (i : Nat) (o : Oper), l[i]? = some o → o.dst ≠ some t) → (putAll vs l k a).tmps[t]? = a.tmps[t]?
  | [], _, _, _ => rfl
  | o :: l, k, a, h => by
    show (putAll vs l (k + 1) (a.put o.dst (vs k))).tmps[t]? = _
    rw [putAll_ne vs t l (k + 1) _ (fun i o' hi => h (i + 1) o' (by simpa using hi)), put_get_ne _ _ _ _ (h 0 o rfl)]
theorem putAll_eq (vs : Nat → Value) (t : Tmp) : ∀ (l : List Oper) (k i : Nat) (a : Act) (o : Oper), l[i]? = some o → o.dst = some t → (∀ (j : Nat) (o' : Oper), l[j]? = some o' → o'.dst = some t → j = i) → t < a.tmps.size → (putAll vs l k a).tmps[t]? = some (vs (k + i))
  | [], _, _, _, _, h, _, _, _ => by cases h
  | o :: l, k, 0, a, o', h, hd, hu, hs => by
    have e : o = o' := by simpa using h
    subst e
    show (putAll vs l (k + 1) (a.put o.dst (vs k))).tmps[t]? = _
    rw [putAll_ne vs t l (k + 1) _ (fun i o' hi hd' => by have := hu (i + 1) o' (by simpa using hi) hd'; omega), hd, put_get_eq _ _ _ hs]
    rfl
  | o :: l, k, i + 1, a, o', h, hd, hu, hs => by
    show (putAll vs l (k + 1) (a.put o.dst (vs k))).tmps[t]? = _
    rw [putAll_eq vs t l (k + 1) i _ o' (by simpa using h) hd (fun j oj hj hdj => by have := hu (j + 1) oj (by simpa using hj) hdj; omega) (by rw [put_size]; exact hs)]
    congr 2; omega

def preB (l : List Oper) (n m : Nat) : Bool :=
  (List.range n).all fun i => match l[i]? with
    | some o => (match o.dst with | some t => decide (t < m) && ((List.range n).all fun j => j == i || ((l[j]?).bind (·.dst)) != some t) | none => false) && o.guard.isNone && o.after.all (fun e => !Region.binds .any e || decide (e.on < i))
    | none => false
/-- An operation that nothing of the prefix, nor the tail's first, waits for: it may come up late. -/
def lateB (l : List Oper) (n i : Nat) : Bool := !((List.range (n + 1)).any fun j => decide (i < j) && Region.waitsFor .any l.toArray j i)
def pureB (o : Oper) : Bool := match o.op with | .move _ => true | .assign _ => true | .extract _ _ => true | _ => false
/-- Such an operation is pure, and apart from all but those that it waits for. -/
def lateOk (l : List Oper) (n : Nat) : Bool :=
  (List.range n).all fun i => !lateB l n i || match l[i]? with
    | some o => pureB o && ((List.range l.length).all fun j => j == i || Region.waitsFor .any l.toArray i j || match l[j]? with
      | some oj => oj.after.any (fun e => Region.binds .any e && e.on == i) || o.apart l.toArray oj
      | none => true)
    | none => false
/-- All others are waited for by one that is no such operation. -/
def sinkL (l : List Oper) (n : Nat) : Bool :=
  (List.range n).all fun i => lateB l n i || (List.range (n + 1)).any fun j => decide (i < j) && Region.waitsFor .any l.toArray j i && (j == n || !lateB l n j)
/-- Up to n, and e, have come up. -/
def listedE (s n e : Nat) : Array Bool := ((List.range s).map fun i => decide (i < n) || i == e).toArray
/-- The tail: from n on, without e, which came up first. -/
def tailIx (s n e : Nat) : List Nat := ((List.range s).drop n).filter (· != e)
def tailOps (l : List Oper) (n e : Nat) : List Oper := (tailIx l.length n e).filterMap (l[·]?)
def seqI (ops : Array Oper) : List Nat → Array Bool → Bool
  | [], listed => (Region.ready .any ops listed).isEmpty
  | k :: r, listed => decide (Region.ready .any ops listed = [k]) && seqI ops r (listed.setIfInBounds k true)
def chainE (l : List Oper) (n e : Nat) : Bool :=
  (List.range l.length).all fun t => decide (t ≤ n) || t == e || (List.range t).any fun s => decide (n ≤ s) && s != e && Region.waitsFor .any l.toArray t s
def monoE (l : List Oper) (n m e : Nat) : Bool :=
  decide (n ≤ l.length) && preB l n m && Region.noSelect l.toArray && (n == l.length || (lateOk l n && sinkL l n && chainE l n e && n != e)) && seqI l.toArray (tailIx l.length n e) (listedE l.length n e)
structure HeadE (ops : Array Oper) (n e : Nat) (listed : Array Bool) : Prop where
  size : listed.size = ops.size
  closed : ∀ j oj, ops[j]? = some oj → listed.getD j false = true → ∀ e' ∈ oj.after, Region.binds .any e' = true → listed.getD e'.on false = true
  tail : ∀ t, n ≤ t → t < ops.size → t ≠ e → listed.getD t true = false
  early : n ≤ e → e < ops.size → listed.getD e false = true
theorem HeadE.set {ops : Array Oper} {n e i : Nat} {listed : Array Bool} (inv : HeadE ops n e listed) (hi : i ∈ Region.ready .any ops listed) (hin : i < n) : HeadE ops n e (listed.setIfInBounds i true) := by
  obtain ⟨_, oi, hoi, hall⟩ := mem_ready.1 hi
  refine ⟨by simp [inv.size], fun j oj hj hl e he hb => ?_, fun t ht ht' hte => by rw [getD_set_ne true (by omega)]; exact inv.tail t ht ht' hte, fun h1 h2 => by rw [getD_set_ne false (by omega)]; exact inv.early h1 h2⟩
  by_cases hij : i = j
  · subst hij
    have : oj = oi := Option.some.inj (hj.symm.trans hoi)
    subst this
    exact getD_set_true (hall e he hb)
  · rw [getD_set_ne false hij] at hl
    exact getD_set_true (inv.closed j oj hj hl e he hb)
theorem wpAny_of_seqI {P : Program} {ops : Array Oper} {Q' : Exit → Act → World → Prop} : ∀ (ks : List Nat) (listed : Array Bool) (a : Act) (w : World), (∀ k ∈ ks, k < ops.size) → seqI ops ks listed = true →
    wpList P ops Q' (ks.filterMap (ops[·]?)) a w → wpAny P .any ops Q' ks.length listed a w
  | [], _, _, _, _, hB, h => ⟨by simpa [seqI] using hB, h⟩
  | k :: r, listed, a, w, hk, hB, h => by
    have hks : k < ops.size := hk k (by simp)
    have h0 : ops[k]? = some ops[k] := by simp [hks]
    simp only [seqI, Bool.and_eq_true, decide_eq_true_eq] at hB
    rw [List.filterMap_cons, h0] at h
    refine ⟨fun h1 => (by rw [hB.1] at h1; cases h1), fun i hi => ?_⟩
    rw [hB.1] at hi
    have hik : i = k := by simpa using hi
    subst hik
    have hw : wpOp P ops Q' i (wpList P ops Q' (r.filterMap (ops[·]?))) a w := by unfold wpOp; simp only [h0]; exact h
    exact wpOp_mono (fun a' w' h' => wpAny_of_seqI r _ a' w' (fun j hj => hk j (by simp [hj])) hB.2 h') hw

theorem pure_op {P : Program} {o : Oper} {ev : Operand → Value} {w : World} {R : Value → World → Prop} (hp : pureB o = true) (h : OpOk P o ev w R) : ∃ v, (∀ w2, (execOp ev o).run P w2 = .ok (.value v) w2) ∧ R v w := by
  unfold pureB at hp
  unfold OpOk at h
  split at hp
  · rename_i x hop
    exact ⟨ev x, fun w2 => by simp [execOp, hop], by simpa [execOp, hop] using h⟩
  · rename_i x hop
    exact ⟨ev x, fun w2 => by simp [execOp, hop], by simpa [execOp, hop] using h⟩
  · rename_i t ix hop
    cases ht : ev t with
    | tuple vs =>
      cases hx : vs[ix]? with
      | none => simp [execOp, hop, Instr.extract, ht, hx, stuck] at h
      | some v => exact ⟨v, fun w2 => by simp [execOp, hop, Instr.extract, ht, hx], by simpa [execOp, hop, Instr.extract, ht, hx] using h⟩
    | _ => simp [execOp, hop, Instr.extract, ht, stuck] at h
  · cases hp

theorem preB_spec {l : List Oper} {n m i : Nat} (h : preB l n m = true) (hi : i < n) : ∃ o t, l[i]? = some o ∧ o.dst = some t ∧ t < m ∧ o.guard = none ∧ (∀ e ∈ o.after, Region.binds .any e = true → e.on < i) ∧ ∀ j oj, j < n → l[j]? = some oj → oj.dst = some t → j = i := by
  have h1 := List.all_eq_true.1 h i (List.mem_range.2 hi)
  cases ho : l[i]? with
  | none => rw [ho] at h1; cases h1
  | some o =>
    rw [ho] at h1
    cases hd : o.dst with
    | none => simp [hd] at h1
    | some t =>
      simp only [hd, Bool.and_eq_true, decide_eq_true_eq] at h1
      obtain ⟨⟨⟨h2, h3⟩, h4⟩, h5⟩ := h1
      refine ⟨o, t, rfl, hd, h2, by simpa using h4, fun e he hb => ?_, fun j oj hj hoj hdj => ?_⟩
      · have := Array.all_eq_true'.1 h5 e he
        rw [hb] at this
        simpa using this
      · have := List.all_eq_true.1 h3 j (List.mem_range.2 hj)
        rw [hoj] at this
        simp only [Option.bind_some, hdj, Bool.or_eq_true, beq_iff_eq, bne_self_eq_false, Bool.false_eq_true, or_false] at this
        exact this

structure MonoInv (R : World → World → Prop) (l : List Oper) (n e : Nat) (I : Nat → Value → World → Prop) (a0 : Act) (W : World) (listed : Array Bool) (a : Act) (w : World) : Prop where
  tsize : a.tmps.size = a0.tmps.size
  defers : a.defers = a0.defers
  grown : R W w
  frame : ∀ t, (∀ i o, i < n → l[i]? = some o → o.dst ≠ some t) → a.tmps[t]? = a0.tmps[t]?
  facts : ∀ i o t, i < n → l[i]? = some o → o.dst = some t → listed.getD i false = true → ∃ v, a.tmps[t]? = some v ∧ I i v w
  head : HeadE l.toArray n e listed

/-- What an operation is asked to do, from what is known of those that it waits for. -/
def StepOk (R : World → World → Prop) (P : Program) (l : List Oper) (n : Nat) (I : Nat → Value → World → Prop) (a0 : Act) (W : World) (k : Nat) (o : Oper) : Prop :=
  ∀ (ev : Operand → Value) (w : World), R W w → (∀ c, ev (.const c) = c) → (∀ f, ev (.func f) = .func (.func f) #[] #[]) →
    (∀ t, (∀ i, i < n → ((l[i]?).bind (·.dst)) ≠ some t) → ev (.tmp t) = a0.tmps.getD t undef) →
    (∀ j t, Region.waitsFor .any l.toArray k j = true → ((l[j]?).bind (·.dst)) = some t → I j (ev (.tmp t)) w) →
    OpOk P o ev w fun v w' => R w w' ∧ I k v w'

theorem tail_waitsL {l : List Oper} {n e : Nat} {listed : Array Bool} (hs : sinkL l n = true) (hc : chainE l n e = true) (hne : n ≠ e) (hn : n ≤ l.length) (inv : HeadE l.toArray n e listed) :
    ∀ (d i : Nat), n - i = d → i < n → lateB l n i = false → listed.getD i true = false → ∀ t, n ≤ t → t ∉ Region.ready .any l.toArray listed := by
  intro d
  induction d using Nat.strongRecOn with
  | _ d ih =>
    intro i hd hi hfl hun t ht hr
    obtain ⟨_, ot, hot, hall⟩ := mem_ready.1 hr
    have htlt : t < l.toArray.size := (Array.getElem?_eq_some_iff.1 hot).1
    by_cases htn : t = n
    · subst htn
      have h1 := List.all_eq_true.1 hs i (List.mem_range.2 hi)
      rw [hfl, Bool.false_or] at h1
      obtain ⟨j, hj, hj2⟩ := List.any_eq_true.1 h1
      simp only [Bool.and_eq_true, decide_eq_true_eq, Bool.or_eq_true, beq_iff_eq, Bool.not_eq_true'] at hj2
      obtain ⟨⟨hij, hw⟩, hlate⟩ := hj2
      obtain ⟨oj, hoj, e', he, hb, hon⟩ := Region.waitsFor_spec hw
      have hjle : j ≤ t := by have := List.mem_range.1 hj; omega
      by_cases hjt : j = t
      · subst hjt
        have : oj = ot := Option.some.inj (hoj.symm.trans hot)
        subst this
        have h2 := hall e' he hb
        rw [hon, getD_both hun] at h2
        cases h2
      · cases hl : listed.getD j false with
        | true =>
          have h2 := inv.closed j oj hoj hl e' he hb
          rw [hon, getD_both hun] at h2
          cases h2
        | false =>
          have hjs : j < listed.size := by rw [inv.size]; simp; omega
          exact ih (t - j) (by omega) j rfl (by omega) (by rcases hlate with h | h
                                                           · exact absurd h hjt
                                                           · exact h) (getD_in hjs hl) t (Nat.le_refl _) hr
    · have h1 := List.all_eq_true.1 hc t (List.mem_range.2 (by simpa using htlt))
      simp only [Bool.or_eq_true, decide_eq_true_eq, beq_iff_eq] at h1
      rcases h1 with (h1 | h1) | h1
      · omega
      · subst h1
        have h3 := inv.early ht htlt
        obtain ⟨h4, _⟩ := mem_ready.1 hr
        rw [getD_both h4] at h3
        cases h3
      · obtain ⟨s, hs', h5⟩ := List.any_eq_true.1 h1
        simp only [Bool.and_eq_true, decide_eq_true_eq, bne_iff_ne] at h5
        obtain ⟨⟨h6, h7⟩, h8⟩ := h5
        obtain ⟨o', ho', e', he, hb, hon⟩ := Region.waitsFor_spec h8
        have : o' = ot := Option.some.inj (ho'.symm.trans hot)
        subst this
        have h2 := hall e' he hb
        have hst := List.mem_range.1 hs'
        rw [hon, getD_both (inv.tail s h6 (by omega) h7)] at h2
        cases h2
theorem late_spec {l : List Oper} {n i : Nat} {o : Oper} (h : lateOk l n = true) (hi : i < n) (hl : lateB l n i = true) (ho : l[i]? = some o) :
    pureB o = true ∧ ∀ j oj, l[j]? = some oj → j ≠ i → Region.waitsFor .any l.toArray i j = false → (∀ e ∈ oj.after, Region.binds .any e = true → e.on ≠ i) → o.apart l.toArray oj = true := by
  have h1 := List.all_eq_true.1 h i (List.mem_range.2 hi)
  rw [hl] at h1
  simp only [ho, Bool.not_true, Bool.false_or, Bool.and_eq_true] at h1
  refine ⟨h1.1, fun j oj hj hne hw hno => ?_⟩
  have h2 := List.all_eq_true.1 h1.2 j (List.mem_range.2 (by
    rcases Nat.lt_or_ge j l.length with h | h
    · exact h
    · rw [List.getElem?_eq_none h] at hj; cases hj))
  simp only [hj, hw, Bool.or_eq_true, beq_iff_eq, hne, false_or, Bool.false_eq_true] at h2
  rcases h2 with h2 | h2
  · obtain ⟨e, he, hb⟩ := Array.any_eq_true'.1 h2
    simp only [Bool.and_eq_true, beq_iff_eq] at hb
    exact absurd hb.2 (hno e he hb.1)
  · exact h2

section
variable {R : World → World → Prop} {P : Program} {l : List Oper} {n e : Nat} {I : Nat → Value → World → Prop} {a0 : Act} {W : World} {Q : Exit → Act → World → Prop}

theorem pre_any (htr : ∀ {a b c}, R a b → R b c → R a c) (hQ : ∀ c (a : Act) d v w, Q (.panic c) (a.put d v) w → Q (.panic c) a w) (hn : n ≤ l.length) (hp : preB l n a0.tmps.size = true) (hsel : Region.noSelect l.toArray = true) (hT : n = l.length ∨ (lateOk l n = true ∧ sinkL l n = true ∧ chainE l n e = true ∧ n ≠ e)) (hq : seqI l.toArray (tailIx l.length n e) (listedE l.length n e) = true)
    (hI : ∀ i v w w', I i v w → R w w' → I i v w')
    (hstep : ∀ k o, k < n → l[k]? = some o → StepOk R P l n I a0 W k o)
    (htail : ∀ (vs : Nat → Value) w, R W w → (∀ i, i < n → I i (vs i) w) → wpList P l.toArray Q (tailOps l n e) (putAll vs (l.take n) 0 a0) w) :
    ∀ (f : Nat) (U : List Nat) (listed : Array Bool) (a : Act) (w : World), U.length = f → U.Nodup → (∀ i, i ∈ U ↔ (i < n ∧ listed.getD i true = false)) → MonoInv R l n e I a0 W listed a w →
      wpAny P .any l.toArray Q (f + (tailIx l.length n e).length) listed a w
  | 0, U, listed, a, w, hU, _, hUl, inv => by
    have hnil : U = [] := List.eq_nil_of_length_eq_zero hU
    subst hnil
    have hsz : listed.size = l.length := by simpa using inv.head.size
    have hall : ∀ i, i < n → listed.getD i false = true := fun i hi => by
      have h1 : ¬ (listed.getD i true = false) := fun h => by have := (hUl i).2 ⟨hi, h⟩; cases this
      have hlt : i < listed.size := by omega
      simp only [Array.getD_eq_getD_getElem?, Array.getElem?_eq_getElem hlt, Option.getD_some] at h1 ⊢
      simpa using h1
    have hL : listed = listedE l.length n e := by
      apply Array.ext
      · simp [listedE, hsz]
      · intro i h1 h2
        rcases Nat.lt_or_ge i n with h | h
        · have := hall i h
          simp only [Array.getD_eq_getD_getElem?, Array.getElem?_eq_getElem h1, Option.getD_some] at this
          rw [this]; simp [listedE, h]
        · by_cases hie : i = e
          · subst hie
            have := inv.head.early h (by simpa using (by omega : i < l.length))
            simp only [Array.getD_eq_getD_getElem?, Array.getElem?_eq_getElem h1, Option.getD_some] at this
            rw [this]; simp [listedE]
          · have := inv.head.tail i h (by simpa using (by omega : i < l.length)) hie
            simp only [Array.getD_eq_getD_getElem?, Array.getElem?_eq_getElem h1, Option.getD_some] at this
            rw [this]; simp [listedE, hie]; omega
    have hfx : ∀ i, i < n → ∃ v t o, l[i]? = some o ∧ o.dst = some t ∧ a.tmps[t]? = some v ∧ I i v w := fun i hi => by
      obtain ⟨o, t, ho, hd, _⟩ := preB_spec hp hi
      obtain ⟨v, hv, hIv⟩ := inv.facts i o t hi ho hd (hall i hi)
      exact ⟨v, t, o, ho, hd, hv, hIv⟩
    let vs : Nat → Value := fun i => a.tmps.getD (((l[i]?).bind (·.dst)).getD 0) undef
    have hvs : ∀ i o t v, l[i]? = some o → o.dst = some t → a.tmps[t]? = some v → vs i = v := fun i o t v ho hd hv => by
      show a.tmps.getD _ undef = v
      rw [ho]; simp only [Option.bind_some, hd, Option.getD_some, Array.getD_eq_getD_getElem?, hv]
    have ha : putAll vs (l.take n) 0 a0 = a := by
      have e1 := putAll_size vs (l.take n) 0 a0
      have e2 : (putAll vs (l.take n) 0 a0).tmps = a.tmps := by
        apply Array.ext_getElem?
        intro t
        by_cases hex : ∃ i o, i < n ∧ l[i]? = some o ∧ o.dst = some t
        · obtain ⟨i, o, hi, ho, hd⟩ := hex
          obtain ⟨o', t', ho', hd', htm, _, _, huni⟩ := preB_spec hp hi
          have eo : o' = o := Option.some.inj (ho'.symm.trans ho)
          subst eo
          have et : t' = t := Option.some.inj (hd'.symm.trans hd)
          subst et
          obtain ⟨v, hv, _⟩ := inv.facts i o' t' hi ho hd (hall i hi)
          rw [putAll_eq vs t' (l.take n) 0 i a0 o' (by rw [List.getElem?_take_of_lt hi]; exact ho) hd (fun j oj hj hdj => by
            rcases Nat.lt_or_ge j n with h | h
            · rw [List.getElem?_take_of_lt h] at hj; exact huni j oj h hj hdj
            · rw [List.getElem?_eq_none (by simp; omega)] at hj; cases hj) htm, hv, Nat.zero_add, hvs i o' t' v ho hd hv]
        · have hno : ∀ i o, i < n → l[i]? = some o → o.dst ≠ some t := fun i o hi ho hd => hex ⟨i, o, hi, ho, hd⟩
          rw [putAll_ne vs t (l.take n) 0 a0 (fun i o hi hd => by
            rcases Nat.lt_or_ge i n with h | h
            · rw [List.getElem?_take_of_lt h] at hi; exact hno i o h hi hd
            · rw [List.getElem?_eq_none (by simp; omega)] at hi; cases hi), inv.frame t hno]
      have e3 := e1.2.trans inv.defers.symm
      cases hx : putAll vs (l.take n) 0 a0 with
      | mk t1 d1 =>
        cases a with
        | mk t2 d2 =>
          rw [hx] at e2 e3
          simp only at e2 e3
          rw [e2, e3]
    have H := htail vs w inv.grown (fun i hi => by
      obtain ⟨v, t, o, ho, hd, hv, hIv⟩ := hfx i hi
      rw [hvs i o t v ho hd hv]; exact hIv)
    rw [ha] at H
    rw [Nat.zero_add]
    exact wpAny_of_seqI (tailIx l.length n e) listed a w (fun k hk => by
      have := (List.mem_filter.1 hk).1
      have := List.mem_range.1 (List.mem_of_mem_drop this)
      simpa using this) (by rw [hL]; exact hq) (by simpa [tailOps] using H)
  | f + 1, U, listed, a, w, hU, hnd, hUl, inv => by
    have hsz : listed.size = l.length := by simpa using inv.head.size
    obtain ⟨u, hu⟩ : ∃ u, u ∈ U := by
      cases U with
      | nil => cases hU
      | cons u _ => exact ⟨u, by simp⟩
    have hun := (hUl u).1 hu
    rw [show f + 1 + (tailIx l.length n e).length = (f + (tailIx l.length n e).length) + 1 by omega]
    have hlen : l.toArray.size = l.length := by simp
    -- the least that has not come up may come up
    have hleast : ∀ m u, u ≤ m → u < n → listed.getD u true = false → ∃ r, r < n ∧ r ≤ u ∧ listed.getD r true = false ∧ r ∈ Region.ready .any l.toArray listed := by
      intro m
      induction m with
      | zero =>
        intro u hum hun' hul
        have hu0 : u = 0 := by omega
        subst hu0
        obtain ⟨o, t, ho, hd, _, _, haft, _⟩ := preB_spec hp hun'
        exact ⟨0, hun', Nat.le_refl _, hul, mem_ready.2 ⟨hul, o, by simpa using ho, fun e he hb => by have := haft e he hb; omega⟩⟩
      | succ m ih =>
        intro u hum hun' hul
        obtain ⟨o, t, ho, hd, _, _, haft, _⟩ := preB_spec hp hun'
        by_cases hr : ∀ e ∈ o.after, Region.binds .any e = true → listed.getD e.on false = true
        · exact ⟨u, hun', Nat.le_refl _, hul, mem_ready.2 ⟨hul, o, by simpa using ho, hr⟩⟩
        · have : ∃ e, e ∈ o.after ∧ Region.binds .any e = true ∧ ¬ (listed.getD e.on false = true) := Classical.byContradiction fun h => hr fun e he hb => Classical.byContradiction fun h' => h ⟨e, he, hb, h'⟩
          obtain ⟨e, he, hb, hne⟩ := this
          have hlt := haft e he hb
          have hlt' : e.on < listed.size := by omega
          obtain ⟨r, h1, h2, h3, h4⟩ := ih e.on (by omega) (by omega) (by
            simp only [Array.getD_eq_getD_getElem?, Array.getElem?_eq_getElem hlt', Option.getD_some] at hne ⊢
            simpa using hne)
          exact ⟨r, h1, by omega, h3, h4⟩
    -- what the operation i does, and what is then known
    have hgo : ∀ i o, i < n → i ∈ Region.ready .any l.toArray listed → l[i]? = some o → OpOk P o a.eval w (fun v w' => R w w' ∧ I i v w') ∧ o.guard = none ∧
        ∀ v w', R w w' → I i v w' → wpAny P .any l.toArray Q (f + (tailIx l.length n e).length) (listed.setIfInBounds i true) (a.put o.dst v) w' := fun i oi hin hi hoi' => by
      obtain ⟨hil, oi', hoi, hall⟩ := mem_ready.1 hi
      have eo0 : oi' = oi := Option.some.inj ((by simpa using hoi : l[i]? = some oi').symm.trans hoi')
      subst eo0
      obtain ⟨o, t, ho, hd, htm, hg, haft, huni⟩ := preB_spec hp hin
      have eo : o = oi' := Option.some.inj (ho.symm.trans hoi')
      subst eo
      have hop := hstep i o hin ho a.eval w inv.grown (fun _ => rfl) (fun _ => rfl) (fun t' ht' => by
          show a.tmps.getD t' undef = a0.tmps.getD t' undef
          rw [Array.getD_eq_getD_getElem?, Array.getD_eq_getD_getElem?, inv.frame t' (fun j oj hj hoj hdj => ht' j hj (by rw [hoj]; exact hdj))])
        (fun j tj hw hdj => by
          obtain ⟨o', ho', e, he, hb, hon⟩ := Region.waitsFor_spec hw
          have eo : o' = o := Option.some.inj (ho'.symm.trans hoi)
          subst eo
          have hlj := hall e he hb
          rw [hon] at hlj
          have hji : j < i := by have := haft e he hb; omega
          cases hoj : l[j]? with
          | none => rw [hoj] at hdj; cases hdj
          | some oj =>
            rw [hoj] at hdj
            have hdj' : oj.dst = some tj := by simpa using hdj
            obtain ⟨v, hv, hIv⟩ := inv.facts j oj tj (by omega) hoj hdj' hlj
            show I j (a.tmps.getD tj undef) w
            rw [Array.getD_eq_getD_getElem?, hv]; exact hIv)
      refine ⟨hop, hg, fun v w' hbw hIv => ?_⟩
      refine pre_any htr hQ hn hp hsel hT hq hI hstep htail f (U.erase i) _ _ _ ?_ (hnd.erase i) (fun j => ?_) ⟨?_, ?_, ?_, ?_, ?_, inv.head.set hi hin⟩
      · rw [List.length_erase_of_mem ((hUl i).2 ⟨hin, hil⟩), hU]; rfl
      · rw [hnd.mem_erase_iff, hUl j]
        by_cases hij : i = j
        · subst hij
          constructor
          · intro h; exact absurd rfl h.1
          · intro h
            have hlt : i < listed.size := by omega
            have := h.2
            simp [hlt] at this
        · rw [getD_set_ne true hij]
          constructor
          · intro h; exact h.2
          · intro h; exact ⟨fun e => hij e.symm, h⟩
      · rw [put_size]; exact inv.tsize
      · rw [put_defers']; exact inv.defers
      · exact htr inv.grown hbw
      · intro t' ht'
        rw [put_get_ne _ _ _ _ (ht' i o hin ho)]; exact inv.frame t' ht'
      · intro j oj tj hj hoj hdj hlj
        by_cases hij : i = j
        · subst hij
          have eo : o = oj := Option.some.inj (ho.symm.trans hoj)
          subst eo
          rw [hdj]
          have htj : tj = t := Option.some.inj (hdj.symm.trans hd)
          subst htj
          exact ⟨v, put_get_eq _ _ _ (by rw [inv.tsize]; exact htm), hIv⟩
        · rw [getD_set_ne false hij] at hlj
          obtain ⟨v', hv', hI'⟩ := inv.facts j oj tj hj hoj hdj hlj
          refine ⟨v', ?_, hI _ _ _ _ hI' hbw⟩
          rw [put_get_ne _ _ _ _ (fun e => hij (huni j oj hj hoj (by rw [hdj]; rw [hd] at e; exact e.symm)).symm)]
          exact hv'
    have hplain : (∀ i ∈ Region.ready .any l.toArray listed, i < n) → wpAny P .any l.toArray Q ((f + (tailIx l.length n e).length) + 1) listed a w := fun hall' => by
      refine ⟨fun h0 => ?_, fun i hi => ?_⟩
      · obtain ⟨r, _, _, _, hr⟩ := hleast u u (Nat.le_refl _) hun.1 hun.2
        rw [h0] at hr; cases hr
      · have hin := hall' i hi
        obtain ⟨_, o, hoi, _⟩ := mem_ready.1 hi
        obtain ⟨hop, hg, hnext⟩ := hgo i o hin hi (by simpa using hoi)
        unfold wpOp
        rw [hoi]
        simp only
        rw [if_pos (by simp [Region.wanted, hg])]
        exact .inl (wp_of_opOk hop fun v w' hR => hnext v w' hR.1 hR.2)
    rcases hT with hT | ⟨hlt, hs, hc, hnE⟩
    · refine hplain fun i hi => ?_
      obtain ⟨_, o, hoi, _⟩ := mem_ready.1 hi
      have := (Array.getElem?_eq_some_iff.1 hoi).1
      omega
    by_cases hfl : ∃ i, i < n ∧ lateB l n i = true ∧ i ∈ Region.ready .any l.toArray listed
    · obtain ⟨i, hin, hla, hi⟩ := hfl
      obtain ⟨hil, o, hoi, hall⟩ := mem_ready.1 hi
      have ho : l[i]? = some o := by simpa using hoi
      obtain ⟨hop, hg, hnext⟩ := hgo i o hin hi ho
      obtain ⟨hpu, hap⟩ := late_spec hlt hin hla ho
      obtain ⟨v, hv, hR⟩ := pure_op hpu hop
      refine wpAny_first hoi (Region.noSelect_spec hsel) (fun c a w => hQ c a o.dst v w) (f + (tailIx l.length n e).length) listed a w (fun j oj hj hne hun' hno => hap j oj (by simpa using hj) hne ?_ hno) hi (.inl ⟨by simp [Region.wanted, hg], hv⟩) (hnext v w hR.1 hR.2)
      -- one that it waits for has come up
      cases hw : Region.waitsFor .any l.toArray i j with
      | false => rfl
      | true =>
        obtain ⟨o', ho', e, he, hb, hon⟩ := Region.waitsFor_spec hw
        have eo : o' = o := Option.some.inj (ho'.symm.trans hoi)
        subst eo
        have h2 := hall e he hb
        rw [hon, getD_both hun'] at h2
        cases h2
    · refine hplain fun i hi => ?_
      rcases Nat.lt_or_ge i n with h | h
      · exact h
      · exfalso
        obtain ⟨r, hrn, _, hrl, hr⟩ := hleast u u (Nat.le_refl _) hun.1 hun.2
        cases hla : lateB l n r with
        | true => exact hfl ⟨r, hrn, hla, hr⟩
        | false => exact tail_waitsL hs hc hnE hn inv.head _ r rfl hrn hla hrl i h hi

/-- The same for all operations of a list. -/
def StepsOk (R : World → World → Prop) (P : Program) (l : List Oper) (n : Nat) (I : Nat → Value → World → Prop) (a0 : Act) (W : World) : List Oper → Nat → Prop
  | [], _ => True
  | o :: r, k => StepOk R P l n I a0 W k o ∧ StepsOk R P l n I a0 W r (k + 1)
theorem steps_nil {k : Nat} : StepsOk R P l n I a0 W [] k := trivial
/-- One step, its premises ready for use. -/
theorem steps_cons (hrf : ∀ w, R w w) {o : Oper} {r : List Oper} {k : Nat}
    (h1 : ∀ (ev : Operand → Value) (w : World), R W w → (∀ c, ev (.const c) = c) → (∀ f, ev (.func f) = .func (.func f) #[] #[]) →
      (∀ t, ((List.range n).all fun i => ((l[i]?).bind (·.dst)) != some t) = true → ev (.tmp t) = a0.tmps.getD t undef) →
      (∀ j t, (Region.waitsFor .any l.toArray k j && ((l[j]?).bind (·.dst)) == some t) = true → I j (ev (.tmp t)) w) →
      R w w → OpOk P o ev w fun v w' => R w w' ∧ I k v w')
    (h2 : StepsOk R P l n I a0 W r (k + 1)) : StepsOk R P l n I a0 W (o :: r) k :=
  ⟨fun ev w hb hc hf hfr hd => h1 ev w hb hc hf (fun t ht => hfr t fun i hi => by simpa using List.all_eq_true.1 ht i (List.mem_range.2 hi)) (fun j t h => by
    simp only [Bool.and_eq_true, beq_iff_eq] at h
    exact hd j t h.1 h.2) (hrf _), h2⟩
theorem steps_spec : ∀ (r : List Oper) (k : Nat), StepsOk R P l n I a0 W r k → ∀ i o, r[i]? = some o → StepOk R P l n I a0 W (k + i) o
  | [], _, _, _, _, h => by cases h
  | _ :: _, k, hs, 0, o', h => by
    injection h with h; subst h; exact hs.1
  | _ :: r, k, hs, i + 1, o', h => by
    have := steps_spec r (k + 1) hs.2 i o' (by simpa using h)
    rwa [show k + 1 + i = k + (i + 1) by omega] at this
/-- A list of what is known, number by number. -/
def known (L : List (Value → World → Prop)) (i : Nat) : Value → World → Prop := L.getD i fun _ _ => True
def Stays (R : World → World → Prop) (p : Value → World → Prop) : Prop := ∀ v w w', p v w → R w w' → p v w'
def AllStay (R : World → World → Prop) : List (Value → World → Prop) → Prop
  | [] => True
  | p :: L => Stays R p ∧ AllStay R L
theorem stay_nil : AllStay R [] := trivial
theorem stay_cons {p : Value → World → Prop} {L : List (Value → World → Prop)} (h1 : Stays R p) (h2 : AllStay R L) : AllStay R (p :: L) := ⟨h1, h2⟩
theorem known_stays : ∀ {L : List (Value → World → Prop)}, AllStay R L → ∀ i v w w', known L i v w → R w w' → known L i v w'
  | [], _, _, _, _, _, _, _ => by simp [known]
  | _ :: _, h, 0, v, w, w', hp, hb => h.1 v w w' hp hb
  | _ :: L, h, i + 1, v, w, w', hp, hb => known_stays (L := L) h.2 i v w w' hp hb
theorem stays_v (x : Value) : Stays R fun v _ => v = x := fun _ _ _ h _ => h
theorem filterMap_range' : ∀ (k n : Nat), (List.range' n k).filterMap (l[·]?) = (l.drop n).take k
  | 0, n => by simp
  | k + 1, n => by
    rw [List.range'_succ, List.filterMap_cons, filterMap_range' k (n + 1)]
    rcases Nat.lt_or_ge n l.length with h | h
    · rw [List.getElem?_eq_getElem h, List.drop_eq_getElem_cons h, List.take_succ_cons]
    · rw [List.getElem?_eq_none h, List.drop_eq_nil_of_le h, List.drop_eq_nil_of_le (by omega)]; simp
theorem tailOps_all (l : List Oper) (n : Nat) : tailOps l n l.length = l.drop n := by
  have h1 : tailIx l.length n l.length = List.range' n (l.length - n) := by
    unfold tailIx
    rw [List.filter_eq_self.2, List.range_eq_range', List.drop_range']
    · simp
    · intro k hk
      have := List.mem_range.1 (List.mem_of_mem_drop hk)
      simp; omega
  unfold tailOps
  rw [h1, filterMap_range', List.take_of_length_le (by simp)]
/-- The law: the prefix makes memory, in any order; the tail, in its order, finds what is known of each value. -/
theorem wp_region_pre {id : Nat} (n m : Nat) (L : List (Value → World → Prop)) (htr : ∀ {a b c}, R a b → R b c → R a c) (hdr : ∀ (w : World) n, R w (w.drewN n)) (hm : P.follows .mixedOrders = true) (hQ : ∀ c (a : Act) d v w, Q (.panic c) (a.put d v) w → Q (.panic c) a w) (hz : a0.tmps.size = m) (hB : monoE l n m l.length = true)
    (hI : AllStay R L) (hsteps : StepsOk R P l n (known L) a0 W (l.take n) 0)
    (htail : ∀ (vs : Nat → Value) w, R W w → (∀ i, i < n → known L i (vs i) w) → wpList P l.toArray Q (l.drop n) (putAll vs (l.take n) 0 a0) w) :
    (Code.region id l.toArray true).wp P Q a0 W := by
  subst hz
  rw [← tailOps_all] at htail
  simp only [monoE, Bool.and_eq_true, Bool.or_eq_true, beq_iff_eq, bne_iff_ne, decide_eq_true_eq, and_assoc] at hB
  obtain ⟨hn, hp, hsel, hT, hq⟩ := hB
  refine wp_region_any hm ?_
  have hb0 : R W { W with drawn := W.drawn + 1 } := hdr W 1
  have inv0 : HeadE l.toArray n l.length (Array.replicate l.toArray.size false) :=
    ⟨by simp, fun j oj _ hl => (by rw [getD_replicate_false] at hl; cases hl), fun t _ ht _ => getD_in (by simpa using ht) (getD_replicate_false _ _), fun _ h => absurd h (by simp)⟩
  have hstep : ∀ k o, k < n → l[k]? = some o → StepOk R P l n (known L) a0 W k o := fun k o hk ho => by
    have := steps_spec _ _ hsteps k o (by rw [List.getElem?_take_of_lt hk]; exact ho)
    rwa [Nat.zero_add] at this
  have H := pre_any (R := R) (P := P) (Q := Q) htr hQ hn hp hsel hT hq (known_stays hI) hstep htail n (List.range n) (Array.replicate l.toArray.size false) a0 { W with drawn := W.drawn + 1 } (by simp) List.nodup_range (fun i => by
    rw [List.mem_range]
    constructor
    · intro hi; exact ⟨hi, getD_in (by simp; omega) (getD_replicate_false _ _)⟩
    · intro h; exact h.1) ⟨rfl, rfl, hb0, fun _ _ => rfl, (fun i o t _ _ _ hl => by rw [getD_replicate_false] at hl; exact absurd hl (by decide)), inv0⟩
  have hlen : n + (tailIx l.length n l.length).length = l.toArray.size := by
    have : tailIx l.length n l.length = (List.range l.length).drop n := by
      unfold tailIx
      rw [List.filter_eq_self]
      intro k hk
      have := List.mem_range.1 (List.mem_of_mem_drop hk)
      simp; omega
    rw [this]; simp; omega
  rw [hlen] at H
  exact H
def earlyB (l : List Oper) (n e : Nat) : Bool :=
  decide (n ≤ e) && (match l[e]? with
    | some oe => oe.guard.isNone && oe.after.all (fun x => !Region.binds .any x) && ((List.range l.length).all fun j => j == e || match l[j]? with
      | some oj => oj.after.any (fun x => Region.binds .any x && x.on == e) || oe.apart l.toArray oj
      | none => true)
    | none => false)
/-- The same where one operation of the tail, which waits for none, is taken first. -/
theorem wp_region_pre1 {id : Nat} (n m e : Nat) (ve : Value) (L : List (Value → World → Prop)) (htr : ∀ {a b c}, R a b → R b c → R a c) (hdr : ∀ (w : World) n, R w (w.drewN n)) (hm : P.follows .mixedOrders = true) (hQ : ∀ c (a : Act) d v w, Q (.panic c) (a.put d v) w → Q (.panic c) a w) (hz : a0.tmps.size = m) (hB : monoE l n m e = true) (hE : earlyB l n e = true) (hTl : tailOps l n e = (l.drop n).eraseIdx (e - n))
    (hve : ∀ oe, l[e]? = some oe → ∀ w2, (execOp a0.eval oe).run P w2 = .ok (.value ve) w2)
    (hI : AllStay R L) (hsteps : StepsOk R P l n (known L) (a0.put ((l[e]?).bind (·.dst)) ve) W (l.take n) 0)
    (htail : ∀ (vs : Nat → Value) w, R W w → (∀ i, i < n → known L i (vs i) w) → wpList P l.toArray Q ((l.drop n).eraseIdx (e - n)) (putAll vs (l.take n) 0 (a0.put ((l[e]?).bind (·.dst)) ve)) w) :
    (Code.region id l.toArray true).wp P Q a0 W := by
  subst hz
  rw [← hTl] at htail
  simp only [monoE, Bool.and_eq_true, Bool.or_eq_true, beq_iff_eq, bne_iff_ne, decide_eq_true_eq, and_assoc] at hB
  obtain ⟨hn, hp, hsel, hT, hq⟩ := hB
  simp only [earlyB, Bool.and_eq_true, decide_eq_true_eq] at hE
  obtain ⟨hne, hE⟩ := hE
  cases hoe : l[e]? with
  | none => rw [hoe] at hE; cases hE
  | some oe =>
    rw [hoe] at hE
    simp only [Bool.and_eq_true, Option.isNone_iff_eq_none, and_assoc] at hE
    obtain ⟨hg, haft, hap⟩ := hE
    have hel : e < l.length := by
      rcases Nat.lt_or_ge e l.length with h | h
      · exact h
      · rw [List.getElem?_eq_none h] at hoe; cases hoe
    have hnb : ∀ x ∈ oe.after, Region.binds .any x = true → False := fun x hx hb => by
      have := Array.all_eq_true'.1 haft x hx
      rw [hb] at this; cases this
    rw [hoe] at hsteps htail
    simp only [Option.bind_some] at hsteps htail
    refine wp_region_any hm ?_
    have hb0 : R W { W with drawn := W.drawn + 1 } := hdr W 1
    obtain ⟨s, hs⟩ : ∃ s, l.toArray.size = s + 1 := ⟨l.length - 1, by simp; omega⟩
    have hre : e ∈ Region.ready .any l.toArray (Array.replicate l.toArray.size false) := mem_ready.2 ⟨getD_in (by simpa using hel) (getD_replicate_false _ _), oe, by simpa using hoe, fun x hx hb => (hnb x hx hb).elim⟩
    have inv0 : HeadE l.toArray n e ((Array.replicate l.toArray.size false).setIfInBounds e true) := by
      refine ⟨by simp, fun j oj hj hl x hx hb => ?_, fun t _ ht hte => by rw [getD_set_ne true (by omega)]; exact getD_in (by simpa using ht) (getD_replicate_false _ _), fun _ _ => by simp [hel]⟩
      by_cases hje : e = j
      · subst hje
        have : oe = oj := Option.some.inj (hoe.symm.trans (by simpa using hj))
        subst this
        exact (hnb x hx hb).elim
      · rw [getD_set_ne false hje, getD_replicate_false] at hl; cases hl
    have hstep : ∀ k o, k < n → l[k]? = some o → StepOk R P l n (known L) (a0.put oe.dst ve) W k o := fun k o hk ho => by
      have := steps_spec _ _ hsteps k o (by rw [List.getElem?_take_of_lt hk]; exact ho)
      rwa [Nat.zero_add] at this
    have H := pre_any (R := R) (P := P) (Q := Q) (e := e) (a0 := a0.put oe.dst ve) htr hQ hn (by rw [put_size]; exact hp) hsel hT hq (known_stays hI) hstep htail n (List.range n) ((Array.replicate l.toArray.size false).setIfInBounds e true) (a0.put oe.dst ve) { W with drawn := W.drawn + 1 } (by simp) List.nodup_range (fun i => by
      rw [List.mem_range]
      constructor
      · intro hi; exact ⟨hi, by rw [getD_set_ne true (by omega)]; exact getD_in (by simp; omega) (getD_replicate_false _ _)⟩
      · intro h; exact h.1) ⟨rfl, rfl, hb0, fun _ _ => rfl, (fun i o t hi _ _ hl => by rw [getD_set_ne false (by omega), getD_replicate_false] at hl; exact absurd hl (by decide)), inv0⟩
    have hlen : n + (tailIx l.length n e).length + 1 = l.toArray.size := by
      have h1 : ∀ (s : List Nat), s.Nodup → e ∈ s → (s.filter (· != e)).length + 1 = s.length := fun s hs hm => by
        have h2 : s.erase e = s.filter (· != e) := hs.erase_eq_filter e
        rw [← h2, List.length_erase_of_mem hm]
        have := List.length_pos_of_mem hm
        omega
      have h2 := h1 ((List.range l.length).drop n) (List.nodup_range.sublist (List.drop_sublist _ _)) (List.mem_iff_getElem?.2 ⟨e - n, by rw [List.getElem?_drop, List.getElem?_range (by omega)]; congr 1; omega⟩)
      unfold tailIx
      have h3 : ((List.range l.length).drop n).length = l.length - n := by simp
      have h4 : l.toArray.size = l.length := by simp
      omega
    have H2 := wpAny_first (by simpa using hoe) (Region.noSelect_spec hsel) (fun c a w => hQ c a oe.dst ve w) (n + (tailIx l.length n e).length) _ a0 _ (fun j oj hj hji hun hno => by
      have h2 := List.all_eq_true.1 hap j (List.mem_range.2 (by
        rcases Nat.lt_or_ge j l.length with h | h
        · exact h
        · have hj' : l[j]? = some oj := by simpa using hj
          rw [List.getElem?_eq_none h] at hj'; cases hj'))
      have hj' : l[j]? = some oj := by simpa using hj
      simp only [hj', Bool.or_eq_true, beq_iff_eq, hji, false_or] at h2
      rcases h2 with h2 | h2
      · obtain ⟨x, hx, hb⟩ := Array.any_eq_true'.1 h2
        simp only [Bool.and_eq_true, beq_iff_eq] at hb
        exact absurd hb.2 (hno x hx hb.1)
      · exact h2) hre (.inl ⟨by simp [Region.wanted, hg], hve oe hoe⟩) H
    rw [hlen] at H2
    exact H2
end
end Go.Proofs.Ytkpbkahmbbkcdaa
