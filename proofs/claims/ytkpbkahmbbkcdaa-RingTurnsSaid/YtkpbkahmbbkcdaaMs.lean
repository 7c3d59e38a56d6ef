/-
  A statement whose order is open, stores among its operations, under an invariant of the prover's: of which operations have come up, of their values, of the world.
-/
import Derived.Test.YtkpbkahmbbkcdaaMg
namespace Go.Proofs.Ytkpbkahmbbkcdaa
open Go.ChangeShapes Go.WideShapes Go.ChangeAt Go.RowKit

def OpS (P : Program) (o : Oper) (ev : Operand → Value) (w : World) (R : Value → World → Prop) : Prop :=
  match (execOp ev o).run P w with
  | .ok (.value v) w' => R v w'
  | .ok (.enter f args) w' => Calls P f args w' fun e w'' => ∃ v, e = .returned v ∧ R v w''
  | .ok .skip w' => R undef w'
  | _ => False
theorem wp_of_opS {P : Program} {o : Oper} {a : Act} {w : World} {R : Value → World → Prop} {next : Act → World → Prop} {Q : Exit → Act → World → Prop} (h : OpS P o a.eval w R) (hn : ∀ v w', R v w' → next (a.put o.dst v) w') : o.wp P a w next Q := by
  unfold OpS at h
  unfold Oper.wp
  generalize (execOp a.eval o).run P w = r at *
  cases r with
  | ok n w' =>
    cases n <;> simp only [Oper.upon] at h ⊢
    case value u => exact hn _ _ h
    case enter f args => exact h.mono fun e w'' ⟨v, he, hr⟩ => by subst he; exact hn _ _ hr
    case skip => exact hn _ _ h
  | halt x w' => exact h.elim
theorem opS_hid {P : Program} {o : Oper} {ev : Operand → Value} {w : World} {Rq : Value → World → Prop} (h : ∀ Rp : Value → World → Prop, Hid (Rp = Rq) → OpS P o ev w Rp) : OpS P o ev w Rq := h Rq (Lib.hid rfl)
theorem pure_opS {P : Program} {o : Oper} {ev : Operand → Value} {w : World} {R : Value → World → Prop} (hp : pureB o = true) (h : OpS P o ev w R) : ∃ v, (∀ w2, (execOp ev o).run P w2 = .ok (.value v) w2) ∧ R v w := by
  unfold pureB at hp
  unfold OpS at h
  split at hp
  · rename_i x hop
    exact ⟨ev x, fun w2 => by simp [execOp, hop], by simpa [execOp, hop] using h⟩
  · rename_i x hop
    exact ⟨ev x, fun w2 => by simp [execOp, hop], by simpa [execOp, hop] using h⟩
  · rename_i t ix hop
    cases ht : ev t with
    | tuple vs =>
      cases hx : vs[ix]? with
      | none => simp [execOp, hop, Instr.extract, ht, hx, stuck] at h
      | some v => exact ⟨v, fun w2 => by simp [execOp, hop, Instr.extract, ht, hx], by simpa [execOp, hop, Instr.extract, ht, hx] using h⟩
    | _ => simp [execOp, hop, Instr.extract, ht, stuck] at h
  · cases hp
/-- As preB, but an operation may have no place for its value. -/
def preS (l : List Oper) (n m : Nat) : Bool :=
  (List.range n).all fun i => match l[i]? with
    | some o => (match o.dst with | some t => decide (t < m) && ((List.range n).all fun j => j == i || ((l[j]?).bind (·.dst)) != some t) | none => true) && o.guard.isNone && o.after.all (fun e => !Region.binds .any e || decide (e.on < i))
    | none => false
theorem preS_spec {l : List Oper} {n m i : Nat} (h : preS l n m = true) (hi : i < n) : ∃ o, l[i]? = some o ∧ o.guard = none ∧ (∀ e ∈ o.after, Region.binds .any e = true → e.on < i) ∧ ∀ t, o.dst = some t → t < m ∧ ∀ j oj, j < n → l[j]? = some oj → oj.dst = some t → j = i := by
  have h1 := List.all_eq_true.1 h i (List.mem_range.2 hi)
  cases ho : l[i]? with
  | none => rw [ho] at h1; cases h1
  | some o =>
    rw [ho] at h1
    simp only [Bool.and_eq_true] at h1
    obtain ⟨⟨h2, h4⟩, h5⟩ := h1
    refine ⟨o, rfl, by simpa using h4, fun e he hb => ?_, fun t hd => ?_⟩
    · have := Array.all_eq_true'.1 h5 e he
      rw [hb] at this
      simpa using this
    · simp only [hd, Bool.and_eq_true, decide_eq_true_eq] at h2
      refine ⟨h2.1, fun j oj hj hoj hdj => ?_⟩
      have := List.all_eq_true.1 h2.2 j (List.mem_range.2 hj)
      rw [hoj] at this
      simp only [Bool.or_eq_true, beq_iff_eq, bne_iff_ne, Option.bind_some] at this
      rcases this with h | h
      · exact h
      · exact absurd hdj h
def monoS (l : List Oper) (n m e : Nat) : Bool :=
  decide (n ≤ l.length) && preS l n m && Region.noSelect l.toArray && (n == l.length || (lateOk l n && sinkL l n && chainE l n e && n != e)) && seqI l.toArray (tailIx l.length n e) (listedE l.length n e)
/-- The value of the operation i. -/
def valS (l : List Oper) (n : Nat) (a : Act) (i : Nat) : Value := if i < n then (match (l[i]?).bind (·.dst) with | some t => a.tmps.getD t undef | none => undef) else undef
/-- The value of an operation, if it has a place for it. -/
def vOf (o : Oper) (v : Value) : Value := match o.dst with | some _ => v | none => undef
theorem valS_eq {l : List Oper} {n : Nat} {a : Act} {i : Nat} {o : Oper} {t : Tmp} (hi : i < n) (ho : l[i]? = some o) (hd : o.dst = some t) : valS l n a i = a.tmps.getD t undef := by
  unfold valS
  rw [if_pos hi, ho]
  simp only [Option.bind_some, hd]
theorem valS_none {l : List Oper} {n : Nat} {a : Act} {i : Nat} {o : Oper} (ho : l[i]? = some o) (hd : o.dst = none) : valS l n a i = undef := by
  unfold valS
  rw [ho]
  simp only [Option.bind_some, hd]
  split <;> rfl
structure InvS (J : (Nat → Bool) → (Nat → Value) → World → Prop) (l : List Oper) (n e : Nat) (a0 : Act) (listed : Array Bool) (a : Act) (w : World) : Prop where
  tsize : a.tmps.size = a0.tmps.size
  defers : a.defers = a0.defers
  frame : ∀ t, (∀ i o, i < n → l[i]? = some o → o.dst ≠ some t) → a.tmps[t]? = a0.tmps[t]?
  head : HeadE l.toArray n e listed
  inv : J (fun i => decide (i < n) && listed.getD i false) (valS l n a) w
/-- What an operation is asked to do. -/
def StepS (J : (Nat → Bool) → (Nat → Value) → World → Prop) (P : Program) (l : List Oper) (n : Nat) (a0 : Act) (k : Nat) (o : Oper) : Prop :=
  ∀ (lst : Nat → Bool) (vs : Nat → Value) (ev : Operand → Value) (w : World), J lst vs w → lst k = false → (∀ c, ev (.const c) = c) → (∀ f, ev (.func f) = .func (.func f) #[] #[]) →
    (∀ t, (∀ i, i < n → ((l[i]?).bind (·.dst)) ≠ some t) → ev (.tmp t) = a0.tmps.getD t undef) →
    (∀ j t, Region.waitsFor .any l.toArray k j = true → ((l[j]?).bind (·.dst)) = some t → lst j = true ∧ ev (.tmp t) = vs j) →
    OpS P o ev w fun v w' => J (fun i => decide (i = k) || lst i) (fun i => if i = k then vOf o v else vs i) w'
section
variable {J : (Nat → Bool) → (Nat → Value) → World → Prop} {P : Program} {l : List Oper} {n e : Nat} {a0 : Act} {W : World} {Q : Exit → Act → World → Prop}
theorem pre_anyS (hQ : ∀ c (a : Act) d v w, Q (.panic c) (a.put d v) w → Q (.panic c) a w) (hn : n ≤ l.length) (hp : preS l n a0.tmps.size = true) (hsel : Region.noSelect l.toArray = true) (hT : n = l.length ∨ (lateOk l n = true ∧ sinkL l n = true ∧ chainE l n e = true ∧ n ≠ e)) (hq : seqI l.toArray (tailIx l.length n e) (listedE l.length n e) = true)
    (hstep : ∀ k o, k < n → l[k]? = some o → StepS J P l n a0 k o)
    (htail : ∀ (vs : Nat → Value) w, J (fun i => decide (i < n)) vs w → wpList P l.toArray Q (tailOps l n e) (putAll vs (l.take n) 0 a0) w) :
    ∀ (f : Nat) (U : List Nat) (listed : Array Bool) (a : Act) (w : World), U.length = f → U.Nodup → (∀ i, i ∈ U ↔ (i < n ∧ listed.getD i true = false)) → InvS J l n e a0 listed a w →
      wpAny P .any l.toArray Q (f + (tailIx l.length n e).length) listed a w
  | 0, U, listed, a, w, hU, _, hUl, inv => by
    have hnil : U = [] := List.eq_nil_of_length_eq_zero hU
    subst hnil
    have hsz : listed.size = l.length := by simpa using inv.head.size
    have hall : ∀ i, i < n → listed.getD i false = true := fun i hi => by
      have h1 : ¬ (listed.getD i true = false) := fun h => by have := (hUl i).2 ⟨hi, h⟩; cases this
      have hlt : i < listed.size := by omega
      simp only [Array.getD_eq_getD_getElem?, Array.getElem?_eq_getElem hlt, Option.getD_some] at h1 ⊢
      simpa using h1
    have hL : listed = listedE l.length n e := by
      apply Array.ext
      · simp [listedE, hsz]
      · intro i h1 h2
        rcases Nat.lt_or_ge i n with h | h
        · have := hall i h
          simp only [Array.getD_eq_getD_getElem?, Array.getElem?_eq_getElem h1, Option.getD_some] at this
          rw [this]; simp [listedE, h]
        · by_cases hie : i = e
          · subst hie
            have := inv.head.early h (by simpa using (by omega : i < l.length))
            simp only [Array.getD_eq_getD_getElem?, Array.getElem?_eq_getElem h1, Option.getD_some] at this
            rw [this]; simp [listedE]
          · have := inv.head.tail i h (by simpa using (by omega : i < l.length)) hie
            simp only [Array.getD_eq_getD_getElem?, Array.getElem?_eq_getElem h1, Option.getD_some] at this
            rw [this]; simp [listedE, hie]; omega
    let vs : Nat → Value := valS l n a
    have ha : putAll vs (l.take n) 0 a0 = a := by
      have e1 := putAll_size vs (l.take n) 0 a0
      have e2 : (putAll vs (l.take n) 0 a0).tmps = a.tmps := by
        apply Array.ext_getElem?
        intro t
        by_cases hex : ∃ i o, i < n ∧ l[i]? = some o ∧ o.dst = some t
        · obtain ⟨i, o, hi, ho, hd⟩ := hex
          obtain ⟨o', ho', _, _, hds⟩ := preS_spec hp hi
          have eo : o' = o := Option.some.inj (ho'.symm.trans ho)
          subst eo
          obtain ⟨htm, huni⟩ := hds t hd
          rw [putAll_eq vs t (l.take n) 0 i a0 o' (by rw [List.getElem?_take_of_lt hi]; exact ho) hd (fun j oj hj hdj => by
            rcases Nat.lt_or_ge j n with h | h
            · rw [List.getElem?_take_of_lt h] at hj; exact huni j oj h hj hdj
            · rw [List.getElem?_eq_none (by simp; omega)] at hj; cases hj) htm, Nat.zero_add]
          show some (valS l n a i) = _
          rw [valS_eq hi ho hd]
          have hlt : t < a.tmps.size := by rw [inv.tsize]; exact htm
          simp [hlt]
        · have hno : ∀ i o, i < n → l[i]? = some o → o.dst ≠ some t := fun i o hi ho hd => hex ⟨i, o, hi, ho, hd⟩
          rw [putAll_ne vs t (l.take n) 0 a0 (fun i o hi hd => by
            rcases Nat.lt_or_ge i n with h | h
            · rw [List.getElem?_take_of_lt h] at hi; exact hno i o h hi hd
            · rw [List.getElem?_eq_none (by simp; omega)] at hi; cases hi), inv.frame t hno]
      have e3 := e1.2.trans inv.defers.symm
      cases hx : putAll vs (l.take n) 0 a0 with
      | mk t1 d1 =>
        cases a with
        | mk t2 d2 =>
          rw [hx] at e2 e3
          simp only at e2 e3
          rw [e2, e3]
    have H := htail vs w (by
      have h1 := inv.inv
      have h2 : (fun i => decide (i < n) && listed.getD i false) = fun i => decide (i < n) := by
        funext i
        by_cases h : i < n
        · rw [hall i h]; simp
        · simp [h]
      rw [h2] at h1
      exact h1)
    rw [ha] at H
    rw [Nat.zero_add]
    exact wpAny_of_seqI (tailIx l.length n e) listed a w (fun k hk => by
      have := (List.mem_filter.1 hk).1
      have := List.mem_range.1 (List.mem_of_mem_drop this)
      simpa using this) (by rw [hL]; exact hq) (by simpa [tailOps] using H)
  | f + 1, U, listed, a, w, hU, hnd, hUl, inv => by
    have hsz : listed.size = l.length := by simpa using inv.head.size
    obtain ⟨u, hu⟩ : ∃ u, u ∈ U := by
      cases U with
      | nil => cases hU
      | cons u _ => exact ⟨u, by simp⟩
    have hun := (hUl u).1 hu
    rw [show f + 1 + (tailIx l.length n e).length = (f + (tailIx l.length n e).length) + 1 by omega]
    have hlen : l.toArray.size = l.length := by simp
    -- the least that has not come up may come up
    have hleast : ∀ m u, u ≤ m → u < n → listed.getD u true = false → ∃ r, r < n ∧ r ≤ u ∧ listed.getD r true = false ∧ r ∈ Region.ready .any l.toArray listed := by
      intro m
      induction m with
      | zero =>
        intro u hum hun' hul
        have hu0 : u = 0 := by omega
        subst hu0
        obtain ⟨o, ho, _, haft, _⟩ := preS_spec hp hun'
        exact ⟨0, hun', Nat.le_refl _, hul, mem_ready.2 ⟨hul, o, by simpa using ho, fun e he hb => by have := haft e he hb; omega⟩⟩
      | succ m ih =>
        intro u hum hun' hul
        obtain ⟨o, ho, _, haft, _⟩ := preS_spec hp hun'
        by_cases hr : ∀ e ∈ o.after, Region.binds .any e = true → listed.getD e.on false = true
        · exact ⟨u, hun', Nat.le_refl _, hul, mem_ready.2 ⟨hul, o, by simpa using ho, hr⟩⟩
        · have : ∃ e, e ∈ o.after ∧ Region.binds .any e = true ∧ ¬ (listed.getD e.on false = true) := Classical.byContradiction fun h => hr fun e he hb => Classical.byContradiction fun h' => h ⟨e, he, hb, h'⟩
          obtain ⟨e, he, hb, hne⟩ := this
          have hlt := haft e he hb
          have hlt' : e.on < listed.size := by omega
          obtain ⟨r, h1, h2, h3, h4⟩ := ih e.on (by omega) (by omega) (by
            simp only [Array.getD_eq_getD_getElem?, Array.getElem?_eq_getElem hlt', Option.getD_some] at hne ⊢
            simpa using hne)
          exact ⟨r, h1, by omega, h3, h4⟩
    -- what the operation i does, and what is then known
    have hgo : ∀ i o, i < n → i ∈ Region.ready .any l.toArray listed → l[i]? = some o → OpS P o a.eval w (fun v w' => J (fun j => decide (j = i) || (decide (j < n) && listed.getD j false)) (fun j => if j = i then vOf o v else valS l n a j) w') ∧ o.guard = none ∧
        ∀ v w', J (fun j => decide (j = i) || (decide (j < n) && listed.getD j false)) (fun j => if j = i then vOf o v else valS l n a j) w' → wpAny P .any l.toArray Q (f + (tailIx l.length n e).length) (listed.setIfInBounds i true) (a.put o.dst v) w' := fun i oi hin hi hoi' => by
      obtain ⟨hil, oi', hoi, hall⟩ := mem_ready.1 hi
      have eo0 : oi' = oi := Option.some.inj ((by simpa using hoi : l[i]? = some oi').symm.trans hoi')
      subst eo0
      obtain ⟨o, ho, hg, haft, hds⟩ := preS_spec hp hin
      have eo : o = oi' := Option.some.inj (ho.symm.trans hoi')
      subst eo
      have hilt : i < listed.size := by omega
      have hif : listed.getD i false = false := by
        simp only [Array.getD_eq_getD_getElem?, Array.getElem?_eq_getElem hilt, Option.getD_some] at hil ⊢
        exact hil
      have hop := hstep i o hin ho (fun j => decide (j < n) && listed.getD j false) (valS l n a) a.eval w inv.inv (by simp [hif]) (fun _ => rfl) (fun _ => rfl) (fun t' ht' => by
          show a.tmps.getD t' undef = a0.tmps.getD t' undef
          rw [Array.getD_eq_getD_getElem?, Array.getD_eq_getD_getElem?, inv.frame t' (fun j oj hj hoj hdj => ht' j hj (by rw [hoj]; exact hdj))])
        (fun j tj hw hdj => by
          obtain ⟨o', ho', e, he, hb, hon⟩ := Region.waitsFor_spec hw
          have eo : o' = o := Option.some.inj (ho'.symm.trans hoi)
          subst eo
          have hlj := hall e he hb
          rw [hon] at hlj
          have hji : j < i := by have := haft e he hb; omega
          refine ⟨by simp [hlj]; omega, ?_⟩
          cases hoj : l[j]? with
          | none => rw [hoj] at hdj; cases hdj
          | some oj =>
            rw [hoj] at hdj
            have hdj' : oj.dst = some tj := by simpa using hdj
            rw [valS_eq (by omega) hoj hdj']
            rfl)
      refine ⟨hop, hg, fun v w' hJ => ?_⟩
      refine pre_anyS hQ hn hp hsel hT hq hstep htail f (U.erase i) _ _ _ ?_ (hnd.erase i) (fun j => ?_) ⟨?_, ?_, ?_, inv.head.set hi hin, ?_⟩
      · rw [List.length_erase_of_mem ((hUl i).2 ⟨hin, hil⟩), hU]; rfl
      · rw [hnd.mem_erase_iff, hUl j]
        by_cases hij : i = j
        · subst hij
          constructor
          · intro h; exact absurd rfl h.1
          · intro h
            have hlt : i < listed.size := by omega
            have := h.2
            simp [hlt] at this
        · rw [getD_set_ne true hij]
          constructor
          · intro h; exact h.2
          · intro h; exact ⟨fun e => hij e.symm, h⟩
      · rw [put_size]; exact inv.tsize
      · rw [put_defers']; exact inv.defers
      · intro t' ht'
        rw [put_get_ne _ _ _ _ (ht' i o hin ho)]; exact inv.frame t' ht'
      · have e1 : (fun j => decide (j < n) && (listed.setIfInBounds i true).getD j false) = fun j => decide (j = i) || (decide (j < n) && listed.getD j false) := by
          funext j
          by_cases hij : i = j
          · subst hij
            simp [hin, hilt]
          · rw [getD_set_ne false hij]
            simp [show ¬ j = i from fun e => hij e.symm]
        have e2 : valS l n (a.put o.dst v) = fun j => if j = i then vOf o v else valS l n a j := by
          funext j
          by_cases hij : j = i
          · subst hij
            rw [if_pos rfl]
            cases hd : o.dst with
            | none =>
              rw [valS_none ho hd]; unfold vOf; rw [hd]
            | some t =>
              obtain ⟨htm, huni⟩ := hds t hd
              rw [valS_eq hin ho hd, Array.getD_eq_getD_getElem?, put_get_eq _ _ _ (by rw [inv.tsize]; exact htm)]
              unfold vOf; rw [hd]; rfl
          · rw [if_neg hij]
            by_cases hjn : j < n
            · obtain ⟨oj, hoj, _, _, hdsj⟩ := preS_spec hp hjn
              cases hdj : oj.dst with
              | none => rw [valS_none hoj hdj, valS_none hoj hdj]
              | some tj =>
                rw [valS_eq hjn hoj hdj, valS_eq hjn hoj hdj, Array.getD_eq_getD_getElem?, Array.getD_eq_getD_getElem?, put_get_ne _ _ _ _ (fun e => hij (((hdsj tj hdj).2 i o hin ho e).symm))]
            · simp [valS, hjn]
        rw [e1, e2]
        exact hJ
    have hplain : (∀ i ∈ Region.ready .any l.toArray listed, i < n) → wpAny P .any l.toArray Q ((f + (tailIx l.length n e).length) + 1) listed a w := fun hall' => by
      refine ⟨fun h0 => ?_, fun i hi => ?_⟩
      · obtain ⟨r, _, _, _, hr⟩ := hleast u u (Nat.le_refl _) hun.1 hun.2
        rw [h0] at hr; cases hr
      · have hin := hall' i hi
        obtain ⟨_, o, hoi, _⟩ := mem_ready.1 hi
        obtain ⟨hop, hg, hnext⟩ := hgo i o hin hi (by simpa using hoi)
        unfold wpOp
        rw [hoi]
        simp only
        rw [if_pos (by simp [Region.wanted, hg])]
        exact .inl (wp_of_opS hop fun v w' hR => hnext v w' hR)
    rcases hT with hT | ⟨hlt, hs, hc, hnE⟩
    · refine hplain fun i hi => ?_
      obtain ⟨_, o, hoi, _⟩ := mem_ready.1 hi
      have := (Array.getElem?_eq_some_iff.1 hoi).1
      omega
    by_cases hfl : ∃ i, i < n ∧ lateB l n i = true ∧ i ∈ Region.ready .any l.toArray listed
    · obtain ⟨i, hin, hla, hi⟩ := hfl
      obtain ⟨hil, o, hoi, hall⟩ := mem_ready.1 hi
      have ho : l[i]? = some o := by simpa using hoi
      obtain ⟨hop, hg, hnext⟩ := hgo i o hin hi ho
      obtain ⟨hpu, hap⟩ := late_spec hlt hin hla ho
      obtain ⟨v, hv, hR⟩ := pure_opS hpu hop
      refine wpAny_first hoi (Region.noSelect_spec hsel) (fun c a w => hQ c a o.dst v w) (f + (tailIx l.length n e).length) listed a w (fun j oj hj hne hun' hno => hap j oj (by simpa using hj) hne ?_ hno) hi (.inl ⟨by simp [Region.wanted, hg], hv⟩) (hnext v w hR)
      -- one that it waits for has come up
      cases hw : Region.waitsFor .any l.toArray i j with
      | false => rfl
      | true =>
        obtain ⟨o', ho', e, he, hb, hon⟩ := Region.waitsFor_spec hw
        have eo : o' = o := Option.some.inj (ho'.symm.trans hoi)
        subst eo
        have h2 := hall e he hb
        rw [hon, getD_both hun'] at h2
        cases h2
    · refine hplain fun i hi => ?_
      rcases Nat.lt_or_ge i n with h | h
      · exact h
      · exfalso
        obtain ⟨r, hrn, _, hrl, hr⟩ := hleast u u (Nat.le_refl _) hun.1 hun.2
        cases hla : lateB l n r with
        | true => exact hfl ⟨r, hrn, hla, hr⟩
        | false => exact tail_waitsL hs hc hnE hn inv.head _ r rfl hrn hla hrl i h hi

/-- The law: what is known of the operations that have come up, and of their values, stays an invariant of every step, in any order; the tail, in its order, finds it for all. -/
theorem wp_region_invs {id : Nat} (n m : Nat) (J : (Nat → Bool) → (Nat → Value) → World → Prop) (hm : P.follows .mixedOrders = true) (hQ : ∀ c (a : Act) d v w, Q (.panic c) (a.put d v) w → Q (.panic c) a w) (hz : a0.tmps.size = m) (hB : monoS l n m l.length = true)
    (hJ0 : ∀ vs, J (fun _ => false) vs (W.drewN 1))
    (hstep : ∀ k o, k < n → l[k]? = some o → StepS J P l n a0 k o)
    (htail : ∀ (vs : Nat → Value) w, J (fun i => decide (i < n)) vs w → wpList P l.toArray Q (l.drop n) (putAll vs (l.take n) 0 a0) w) :
    (Code.region id l.toArray true).wp P Q a0 W := by
  subst hz
  rw [← tailOps_all] at htail
  simp only [monoS, Bool.and_eq_true, Bool.or_eq_true, beq_iff_eq, bne_iff_ne, decide_eq_true_eq, and_assoc] at hB
  obtain ⟨hn, hp, hsel, hT, hq⟩ := hB
  refine wp_region_any hm ?_
  have inv0 : HeadE l.toArray n l.length (Array.replicate l.toArray.size false) :=
    ⟨by simp, fun j oj _ hl => (by rw [getD_replicate_false] at hl; cases hl), fun t _ ht _ => getD_in (by simpa using ht) (getD_replicate_false _ _), fun _ h => absurd h (by simp)⟩
  have H := pre_anyS (J := J) (P := P) (Q := Q) hQ hn hp hsel hT hq hstep htail n (List.range n) (Array.replicate l.toArray.size false) a0 { W with drawn := W.drawn + 1 } (by simp) List.nodup_range (fun i => by
    rw [List.mem_range]
    constructor
    · intro hi; exact ⟨hi, getD_in (by simp; omega) (getD_replicate_false _ _)⟩
    · intro h; exact h.1) ⟨rfl, rfl, fun _ _ => rfl, inv0, by
      have e1 : (fun i => decide (i < n) && (Array.replicate l.toArray.size false).getD i false) = fun _ => false := by
        funext i; rw [getD_replicate_false]; simp
      rw [e1]
      exact hJ0 _⟩
  have hlen : n + (tailIx l.length n l.length).length = l.toArray.size := by
    have : tailIx l.length n l.length = (List.range l.length).drop n := by
      unfold tailIx
      rw [List.filter_eq_self]
      intro k hk
      have := List.mem_range.1 (List.mem_of_mem_drop hk)
      simp; omega
    rw [this]; simp; omega
  rw [hlen] at H
  exact H
end
end Go.Proofs.Ytkpbkahmbbkcdaa
