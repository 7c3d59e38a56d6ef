/-
  A statement whose order is open, as in the text before, where some operations lay memory of their own: no two of them lay the same.
-/
import Derived.Test.YtikffoepndpfjaaMg
namespace Go.Proofs.Ytikffoepndpfjaa
open Go.ChangeShapes Go.WideShapes Go.ChangeAt Go.RowKit

/-- The value of the operation i. -/
def valAt (l : List Oper) (a : Act) (i : Nat) : Value := a.tmps.getD (((l[i]?).bind (·.dst)).getD 0) undef
/-- Where fr says so, the value is a place that the world before had not. -/
def Frsh (fr : Nat → Bool) (k : Nat) (v : Value) (w : World) : Prop := fr k = true → ∃ b, v = .pointer (some ⟨b, 0, none⟩) ∧ w.heap.size ≤ b
structure MonoInv2 (fr : Nat → Bool) (R : World → World → Prop) (l : List Oper) (n e : Nat) (I : Nat → Value → World → Prop) (a0 : Act) (W : World) (listed : Array Bool) (a : Act) (w : World) : Prop where
  tsize : a.tmps.size = a0.tmps.size
  defers : a.defers = a0.defers
  grown : R W w
  frame : ∀ t, (∀ i o, i < n → l[i]? = some o → o.dst ≠ some t) → a.tmps[t]? = a0.tmps[t]?
  facts : ∀ i o t, i < n → l[i]? = some o → o.dst = some t → listed.getD i false = true → ∃ v, a.tmps[t]? = some v ∧ I i v w
  head : HeadE l.toArray n e listed
  pairs : ∀ i j, i < n → j < n → i ≠ j → fr i = true → fr j = true → listed.getD i false = true → listed.getD j false = true → valAt l a i ≠ valAt l a j

/-- What an operation is asked to do, from what is known of those that it waits for. -/
def StepOk2 (fr : Nat → Bool) (R : World → World → Prop) (P : Program) (l : List Oper) (n : Nat) (I : Nat → Value → World → Prop) (a0 : Act) (W : World) (k : Nat) (o : Oper) : Prop :=
  ∀ (ev : Operand → Value) (w : World), R W w → (∀ c, ev (.const c) = c) → (∀ f, ev (.func f) = .func (.func f) #[] #[]) →
    (∀ t, (∀ i, i < n → ((l[i]?).bind (·.dst)) ≠ some t) → ev (.tmp t) = a0.tmps.getD t undef) →
    (∀ j t, Region.waitsFor .any l.toArray k j = true → ((l[j]?).bind (·.dst)) = some t → I j (ev (.tmp t)) w) →
    OpOk P o ev w fun v w' => R w w' ∧ I k v w' ∧ Frsh fr k v w


section
variable {R : World → World → Prop} {P : Program} {l : List Oper} {n e : Nat} {I : Nat → Value → World → Prop} {a0 : Act} {W : World} {Q : Exit → Act → World → Prop} {fr : Nat → Bool}

theorem pre_any2 (hfr : ∀ i v w, fr i = true → I i v w → ∃ b, v = .pointer (some ⟨b, 0, none⟩) ∧ b < w.heap.size) (htr : ∀ {a b c}, R a b → R b c → R a c) (hQ : ∀ c (a : Act) d v w, Q (.panic c) (a.put d v) w → Q (.panic c) a w) (hn : n ≤ l.length) (hp : preB l n a0.tmps.size = true) (hsel : Region.noSelect l.toArray = true) (hT : n = l.length ∨ (lateOk l n = true ∧ sinkL l n = true ∧ chainE l n e = true ∧ n ≠ e)) (hq : seqI l.toArray (tailIx l.length n e) (listedE l.length n e) = true)
    (hI : ∀ i v w w', I i v w → R w w' → I i v w')
    (hstep : ∀ k o, k < n → l[k]? = some o → StepOk2 fr R P l n I a0 W k o)
    (htail : ∀ (vs : Nat → Value) w, R W w → (∀ i, i < n → I i (vs i) w) → (∀ i j, i < n → j < n → i ≠ j → fr i = true → fr j = true → vs i ≠ vs j) → wpList P l.toArray Q (tailOps l n e) (putAll vs (l.take n) 0 a0) w) :
    ∀ (f : Nat) (U : List Nat) (listed : Array Bool) (a : Act) (w : World), U.length = f → U.Nodup → (∀ i, i ∈ U ↔ (i < n ∧ listed.getD i true = false)) → MonoInv2 fr R l n e I a0 W listed a w →
      wpAny P .any l.toArray Q (f + (tailIx l.length n e).length) listed a w
  | 0, U, listed, a, w, hU, _, hUl, inv => by
    have hnil : U = [] := List.eq_nil_of_length_eq_zero hU
    subst hnil
    have hsz : listed.size = l.length := by simpa using inv.head.size
    have hall : ∀ i, i < n → listed.getD i false = true := fun i hi => by
      have h1 : ¬ (listed.getD i true = false) := fun h => by have := (hUl i).2 ⟨hi, h⟩; cases this
      have hlt : i < listed.size := by omega
      simp only [Array.getD_eq_getD_getElem?, Array.getElem?_eq_getElem hlt, Option.getD_some] at h1 ⊢
      simpa using h1
    have hL : listed = listedE l.length n e := by
      apply Array.ext
      · simp [listedE, hsz]
      · intro i h1 h2
        rcases Nat.lt_or_ge i n with h | h
        · have := hall i h
          simp only [Array.getD_eq_getD_getElem?, Array.getElem?_eq_getElem h1, Option.getD_some] at this
          rw [this]; simp [listedE, h]
        · by_cases hie : i = e
          · subst hie
            have := inv.head.early h (by simpa using (by omega : i < l.length))
            simp only [Array.getD_eq_getD_getElem?, Array.getElem?_eq_getElem h1, Option.getD_some] at this
            rw [this]; simp [listedE]
          · have := inv.head.tail i h (by simpa using (by omega : i < l.length)) hie
            simp only [Array.getD_eq_getD_getElem?, Array.getElem?_eq_getElem h1, Option.getD_some] at this
            rw [this]; simp [listedE, hie]; omega
    have hfx : ∀ i, i < n → ∃ v t o, l[i]? = some o ∧ o.dst = some t ∧ a.tmps[t]? = some v ∧ I i v w := fun i hi => by
      obtain ⟨o, t, ho, hd, _⟩ := preB_spec hp hi
      obtain ⟨v, hv, hIv⟩ := inv.facts i o t hi ho hd (hall i hi)
      exact ⟨v, t, o, ho, hd, hv, hIv⟩
    let vs : Nat → Value := fun i => a.tmps.getD (((l[i]?).bind (·.dst)).getD 0) undef
    have hvs : ∀ i o t v, l[i]? = some o → o.dst = some t → a.tmps[t]? = some v → vs i = v := fun i o t v ho hd hv => by
      show a.tmps.getD _ undef = v
      rw [ho]; simp only [Option.bind_some, hd, Option.getD_some, Array.getD_eq_getD_getElem?, hv]
    have ha : putAll vs (l.take n) 0 a0 = a := by
      have e1 := putAll_size vs (l.take n) 0 a0
      have e2 : (putAll vs (l.take n) 0 a0).tmps = a.tmps := by
        apply Array.ext_getElem?
        intro t
        by_cases hex : ∃ i o, i < n ∧ l[i]? = some o ∧ o.dst = some t
        · obtain ⟨i, o, hi, ho, hd⟩ := hex
          obtain ⟨o', t', ho', hd', htm, _, _, huni⟩ := preB_spec hp hi
          have eo : o' = o := Option.some.inj (ho'.symm.trans ho)
          subst eo
          have et : t' = t := Option.some.inj (hd'.symm.trans hd)
          subst et
          obtain ⟨v, hv, _⟩ := inv.facts i o' t' hi ho hd (hall i hi)
          rw [putAll_eq vs t' (l.take n) 0 i a0 o' (by rw [List.getElem?_take_of_lt hi]; exact ho) hd (fun j oj hj hdj => by
            rcases Nat.lt_or_ge j n with h | h
            · rw [List.getElem?_take_of_lt h] at hj; exact huni j oj h hj hdj
            · rw [List.getElem?_eq_none (by simp; omega)] at hj; cases hj) htm, hv, Nat.zero_add, hvs i o' t' v ho hd hv]
        · have hno : ∀ i o, i < n → l[i]? = some o → o.dst ≠ some t := fun i o hi ho hd => hex ⟨i, o, hi, ho, hd⟩
          rw [putAll_ne vs t (l.take n) 0 a0 (fun i o hi hd => by
            rcases Nat.lt_or_ge i n with h | h
            · rw [List.getElem?_take_of_lt h] at hi; exact hno i o h hi hd
            · rw [List.getElem?_eq_none (by simp; omega)] at hi; cases hi), inv.frame t hno]
      have e3 := e1.2.trans inv.defers.symm
      cases hx : putAll vs (l.take n) 0 a0 with
      | mk t1 d1 =>
        cases a with
        | mk t2 d2 =>
          rw [hx] at e2 e3
          simp only at e2 e3
          rw [e2, e3]
    have H := htail vs w inv.grown (fun i hi => by
      obtain ⟨v, t, o, ho, hd, hv, hIv⟩ := hfx i hi
      rw [hvs i o t v ho hd hv]; exact hIv) (fun i j hi hj hij fi fj => inv.pairs i j hi hj hij fi fj (hall i hi) (hall j hj))
    rw [ha] at H
    rw [Nat.zero_add]
    exact wpAny_of_seqI (tailIx l.length n e) listed a w (fun k hk => by
      have := (List.mem_filter.1 hk).1
      have := List.mem_range.1 (List.mem_of_mem_drop this)
      simpa using this) (by rw [hL]; exact hq) (by simpa [tailOps] using H)
  | f + 1, U, listed, a, w, hU, hnd, hUl, inv => by
    have hsz : listed.size = l.length := by simpa using inv.head.size
    obtain ⟨u, hu⟩ : ∃ u, u ∈ U := by
      cases U with
      | nil => cases hU
      | cons u _ => exact ⟨u, by simp⟩
    have hun := (hUl u).1 hu
    rw [show f + 1 + (tailIx l.length n e).length = (f + (tailIx l.length n e).length) + 1 by omega]
    have hlen : l.toArray.size = l.length := by simp
    -- the least that has not come up may come up
    have hleast : ∀ m u, u ≤ m → u < n → listed.getD u true = false → ∃ r, r < n ∧ r ≤ u ∧ listed.getD r true = false ∧ r ∈ Region.ready .any l.toArray listed := by
      intro m
      induction m with
      | zero =>
        intro u hum hun' hul
        have hu0 : u = 0 := by omega
        subst hu0
        obtain ⟨o, t, ho, hd, _, _, haft, _⟩ := preB_spec hp hun'
        exact ⟨0, hun', Nat.le_refl _, hul, mem_ready.2 ⟨hul, o, by simpa using ho, fun e he hb => by have := haft e he hb; omega⟩⟩
      | succ m ih =>
        intro u hum hun' hul
        obtain ⟨o, t, ho, hd, _, _, haft, _⟩ := preB_spec hp hun'
        by_cases hr : ∀ e ∈ o.after, Region.binds .any e = true → listed.getD e.on false = true
        · exact ⟨u, hun', Nat.le_refl _, hul, mem_ready.2 ⟨hul, o, by simpa using ho, hr⟩⟩
        · have : ∃ e, e ∈ o.after ∧ Region.binds .any e = true ∧ ¬ (listed.getD e.on false = true) := Classical.byContradiction fun h => hr fun e he hb => Classical.byContradiction fun h' => h ⟨e, he, hb, h'⟩
          obtain ⟨e, he, hb, hne⟩ := this
          have hlt := haft e he hb
          have hlt' : e.on < listed.size := by omega
          obtain ⟨r, h1, h2, h3, h4⟩ := ih e.on (by omega) (by omega) (by
            simp only [Array.getD_eq_getD_getElem?, Array.getElem?_eq_getElem hlt', Option.getD_some] at hne ⊢
            simpa using hne)
          exact ⟨r, h1, by omega, h3, h4⟩
    -- what the operation i does, and what is then known
    have hgo : ∀ i o, i < n → i ∈ Region.ready .any l.toArray listed → l[i]? = some o → OpOk P o a.eval w (fun v w' => R w w' ∧ I i v w' ∧ Frsh fr i v w) ∧ o.guard = none ∧
        ∀ v w', R w w' → I i v w' → Frsh fr i v w → wpAny P .any l.toArray Q (f + (tailIx l.length n e).length) (listed.setIfInBounds i true) (a.put o.dst v) w' := fun i oi hin hi hoi' => by
      obtain ⟨hil, oi', hoi, hall⟩ := mem_ready.1 hi
      have eo0 : oi' = oi := Option.some.inj ((by simpa using hoi : l[i]? = some oi').symm.trans hoi')
      subst eo0
      obtain ⟨o, t, ho, hd, htm, hg, haft, huni⟩ := preB_spec hp hin
      have eo : o = oi' := Option.some.inj (ho.symm.trans hoi')
      subst eo
      have hop := hstep i o hin ho a.eval w inv.grown (fun _ => rfl) (fun _ => rfl) (fun t' ht' => by
          show a.tmps.getD t' undef = a0.tmps.getD t' undef
          rw [Array.getD_eq_getD_getElem?, Array.getD_eq_getD_getElem?, inv.frame t' (fun j oj hj hoj hdj => ht' j hj (by rw [hoj]; exact hdj))])
        (fun j tj hw hdj => by
          obtain ⟨o', ho', e, he, hb, hon⟩ := Region.waitsFor_spec hw
          have eo : o' = o := Option.some.inj (ho'.symm.trans hoi)
          subst eo
          have hlj := hall e he hb
          rw [hon] at hlj
          have hji : j < i := by have := haft e he hb; omega
          cases hoj : l[j]? with
          | none => rw [hoj] at hdj; cases hdj
          | some oj =>
            rw [hoj] at hdj
            have hdj' : oj.dst = some tj := by simpa using hdj
            obtain ⟨v, hv, hIv⟩ := inv.facts j oj tj (by omega) hoj hdj' hlj
            show I j (a.tmps.getD tj undef) w
            rw [Array.getD_eq_getD_getElem?, hv]; exact hIv)
      refine ⟨hop, hg, fun v w' hbw hIv hFv => ?_⟩
      refine pre_any2 hfr htr hQ hn hp hsel hT hq hI hstep htail f (U.erase i) _ _ _ ?_ (hnd.erase i) (fun j => ?_) ⟨?_, ?_, ?_, ?_, ?_, inv.head.set hi hin, ?_⟩
      · rw [List.length_erase_of_mem ((hUl i).2 ⟨hin, hil⟩), hU]; rfl
      · rw [hnd.mem_erase_iff, hUl j]
        by_cases hij : i = j
        · subst hij
          constructor
          · intro h; exact absurd rfl h.1
          · intro h
            have hlt : i < listed.size := by omega
            have := h.2
            simp [hlt] at this
        · rw [getD_set_ne true hij]
          constructor
          · intro h; exact h.2
          · intro h; exact ⟨fun e => hij e.symm, h⟩
      · rw [put_size]; exact inv.tsize
      · rw [put_defers']; exact inv.defers
      · exact htr inv.grown hbw
      · intro t' ht'
        rw [put_get_ne _ _ _ _ (ht' i o hin ho)]; exact inv.frame t' ht'
      · intro j oj tj hj hoj hdj hlj
        by_cases hij : i = j
        · subst hij
          have eo : o = oj := Option.some.inj (ho.symm.trans hoj)
          subst eo
          rw [hdj]
          have htj : tj = t := Option.some.inj (hdj.symm.trans hd)
          subst htj
          exact ⟨v, put_get_eq _ _ _ (by rw [inv.tsize]; exact htm), hIv⟩
        · rw [getD_set_ne false hij] at hlj
          obtain ⟨v', hv', hI'⟩ := inv.facts j oj tj hj hoj hdj hlj
          refine ⟨v', ?_, hI _ _ _ _ hI' hbw⟩
          rw [put_get_ne _ _ _ _ (fun e => hij (huni j oj hj hoj (by rw [hdj]; rw [hd] at e; exact e.symm)).symm)]
          exact hv'
      · intro i1 j1 hi1 hj1 hne f1 f2 l1 l2
        have hvi : valAt l (a.put o.dst v) i = v := by
          unfold valAt
          rw [ho]
          simp only [Option.bind_some, hd, Option.getD_some, Array.getD_eq_getD_getElem?]
          rw [put_get_eq _ _ _ (by rw [inv.tsize]; exact htm)]; rfl
        have hvo : ∀ j, j < n → j ≠ i → listed.getD j false = true → valAt l (a.put o.dst v) j = valAt l a j ∧ I j (valAt l a j) w := by
          intro j hj hji hlj
          obtain ⟨oj, tj, hoj, hdj, _⟩ := preB_spec hp hj
          obtain ⟨v', hv', hI'⟩ := inv.facts j oj tj hj hoj hdj hlj
          have e1 : valAt l a j = v' := by
            unfold valAt
            rw [hoj]
            simp only [Option.bind_some, hdj, Option.getD_some, Array.getD_eq_getD_getElem?, hv']
          refine ⟨?_, by rw [e1]; exact hI'⟩
          rw [e1]
          unfold valAt
          rw [hoj]
          simp only [Option.bind_some, hdj, Option.getD_some, Array.getD_eq_getD_getElem?]
          rw [put_get_ne _ _ _ _ (fun e => hji (huni j oj hj hoj (by rw [hdj]; rw [hd] at e; exact e.symm))), hv']
          rfl
        by_cases h1 : i = i1
        · subst h1
          have hj1i : j1 ≠ i := fun e => hne e.symm
          rw [getD_set_ne false (fun e => hj1i e.symm)] at l2
          obtain ⟨e1, hIj⟩ := hvo j1 hj1 hj1i l2
          rw [hvi, e1]
          obtain ⟨b1, hb1, hl1⟩ := hfr _ _ _ f2 hIj
          obtain ⟨b2, hb2, hl2⟩ := hFv f1
          rw [hb1, hb2]
          intro e
          injection e with e
          injection e with e
          injection e with e
          omega
        · rw [getD_set_ne false h1] at l1
          obtain ⟨e1, hIj⟩ := hvo i1 hi1 (fun e => h1 e.symm) l1
          by_cases h2 : i = j1
          · subst h2
            rw [hvi, e1]
            obtain ⟨b1, hb1, hl1⟩ := hfr _ _ _ f1 hIj
            obtain ⟨b2, hb2, hl2⟩ := hFv f2
            rw [hb1, hb2]
            intro e
            injection e with e
            injection e with e
            injection e with e
            omega
          · rw [getD_set_ne false h2] at l2
            obtain ⟨e2, _⟩ := hvo j1 hj1 (fun e => h2 e.symm) l2
            rw [e1, e2]
            exact inv.pairs i1 j1 hi1 hj1 hne f1 f2 l1 l2
    have hplain : (∀ i ∈ Region.ready .any l.toArray listed, i < n) → wpAny P .any l.toArray Q ((f + (tailIx l.length n e).length) + 1) listed a w := fun hall' => by
      refine ⟨fun h0 => ?_, fun i hi => ?_⟩
      · obtain ⟨r, _, _, _, hr⟩ := hleast u u (Nat.le_refl _) hun.1 hun.2
        rw [h0] at hr; cases hr
      · have hin := hall' i hi
        obtain ⟨_, o, hoi, _⟩ := mem_ready.1 hi
        obtain ⟨hop, hg, hnext⟩ := hgo i o hin hi (by simpa using hoi)
        unfold wpOp
        rw [hoi]
        simp only
        rw [if_pos (by simp [Region.wanted, hg])]
        exact .inl (wp_of_opOk hop fun v w' hR => hnext v w' hR.1 hR.2.1 hR.2.2)
    rcases hT with hT | ⟨hlt, hs, hc, hnE⟩
    · refine hplain fun i hi => ?_
      obtain ⟨_, o, hoi, _⟩ := mem_ready.1 hi
      have := (Array.getElem?_eq_some_iff.1 hoi).1
      omega
    by_cases hfl : ∃ i, i < n ∧ lateB l n i = true ∧ i ∈ Region.ready .any l.toArray listed
    · obtain ⟨i, hin, hla, hi⟩ := hfl
      obtain ⟨hil, o, hoi, hall⟩ := mem_ready.1 hi
      have ho : l[i]? = some o := by simpa using hoi
      obtain ⟨hop, hg, hnext⟩ := hgo i o hin hi ho
      obtain ⟨hpu, hap⟩ := late_spec hlt hin hla ho
      obtain ⟨v, hv, hR⟩ := pure_op hpu hop
      refine wpAny_first hoi (Region.noSelect_spec hsel) (fun c a w => hQ c a o.dst v w) (f + (tailIx l.length n e).length) listed a w (fun j oj hj hne hun' hno => hap j oj (by simpa using hj) hne ?_ hno) hi (.inl ⟨by simp [Region.wanted, hg], hv⟩) (hnext v w hR.1 hR.2.1 hR.2.2)
      -- one that it waits for has come up
      cases hw : Region.waitsFor .any l.toArray i j with
      | false => rfl
      | true =>
        obtain ⟨o', ho', e, he, hb, hon⟩ := Region.waitsFor_spec hw
        have eo : o' = o := Option.some.inj (ho'.symm.trans hoi)
        subst eo
        have h2 := hall e he hb
        rw [hon, getD_both hun'] at h2
        cases h2
    · refine hplain fun i hi => ?_
      rcases Nat.lt_or_ge i n with h | h
      · exact h
      · exfalso
        obtain ⟨r, hrn, _, hrl, hr⟩ := hleast u u (Nat.le_refl _) hun.1 hun.2
        cases hla : lateB l n r with
        | true => exact hfl ⟨r, hrn, hla, hr⟩
        | false => exact tail_waitsL hs hc hnE hn inv.head _ r rfl hrn hla hrl i h hi

/-- The same for all operations of a list. -/
def StepsOk2 (fr : Nat → Bool) (R : World → World → Prop) (P : Program) (l : List Oper) (n : Nat) (I : Nat → Value → World → Prop) (a0 : Act) (W : World) : List Oper → Nat → Prop
  | [], _ => True
  | o :: r, k => StepOk2 fr R P l n I a0 W k o ∧ StepsOk2 fr R P l n I a0 W r (k + 1)
theorem steps_nil2 {k : Nat} : StepsOk2 fr R P l n I a0 W [] k := trivial
/-- One step, its premises ready for use. -/
theorem steps_cons2 (hrf : ∀ w, R w w) {o : Oper} {r : List Oper} {k : Nat}
    (h1 : ∀ (ev : Operand → Value) (w : World), R W w → (∀ c, ev (.const c) = c) → (∀ f, ev (.func f) = .func (.func f) #[] #[]) →
      (∀ t, ((List.range n).all fun i => ((l[i]?).bind (·.dst)) != some t) = true → ev (.tmp t) = a0.tmps.getD t undef) →
      (∀ j t, (Region.waitsFor .any l.toArray k j && ((l[j]?).bind (·.dst)) == some t) = true → I j (ev (.tmp t)) w) →
      R w w → OpOk P o ev w fun v w' => R w w' ∧ I k v w' ∧ Frsh fr k v w)
    (h2 : StepsOk2 fr R P l n I a0 W r (k + 1)) : StepsOk2 fr R P l n I a0 W (o :: r) k :=
  ⟨fun ev w hb hc hf hfr hd => h1 ev w hb hc hf (fun t ht => hfr t fun i hi => by simpa using List.all_eq_true.1 ht i (List.mem_range.2 hi)) (fun j t h => by
    simp only [Bool.and_eq_true, beq_iff_eq] at h
    exact hd j t h.1 h.2) (hrf _), h2⟩
theorem steps_spec2 : ∀ (r : List Oper) (k : Nat), StepsOk2 fr R P l n I a0 W r k → ∀ i o, r[i]? = some o → StepOk2 fr R P l n I a0 W (k + i) o
  | [], _, _, _, _, h => by cases h
  | _ :: _, k, hs, 0, o', h => by
    injection h with h; subst h; exact hs.1
  | _ :: r, k, hs, i + 1, o', h => by
    have := steps_spec2 r (k + 1) hs.2 i o' (by simpa using h)
    rwa [show k + 1 + i = k + (i + 1) by omega] at this
/-- The law: the prefix makes memory, in any order; the tail, in its order, finds what is known of each value. -/
theorem wp_region_pre2 {id : Nat} (n m : Nat) (L : List (Value → World → Prop)) (fr : Nat → Bool) (hfr : ∀ i v w, fr i = true → known L i v w → ∃ b, v = .pointer (some ⟨b, 0, none⟩) ∧ b < w.heap.size) (htr : ∀ {a b c}, R a b → R b c → R a c) (hdr : ∀ (w : World) n, R w (w.drewN n)) (hm : P.follows .mixedOrders = true) (hQ : ∀ c (a : Act) d v w, Q (.panic c) (a.put d v) w → Q (.panic c) a w) (hz : a0.tmps.size = m) (hB : monoE l n m l.length = true)
    (hI : AllStay R L) (hsteps : StepsOk2 fr R P l n (known L) a0 W (l.take n) 0)
    (htail : ∀ (vs : Nat → Value) w, R W w → (∀ i, i < n → known L i (vs i) w) → (∀ i j, i < n → j < n → i ≠ j → fr i = true → fr j = true → vs i ≠ vs j) → wpList P l.toArray Q (l.drop n) (putAll vs (l.take n) 0 a0) w) :
    (Code.region id l.toArray true).wp P Q a0 W := by
  subst hz
  rw [← tailOps_all] at htail
  simp only [monoE, Bool.and_eq_true, Bool.or_eq_true, beq_iff_eq, bne_iff_ne, decide_eq_true_eq, and_assoc] at hB
  obtain ⟨hn, hp, hsel, hT, hq⟩ := hB
  refine wp_region_any hm ?_
  have hb0 : R W { W with drawn := W.drawn + 1 } := hdr W 1
  have inv0 : HeadE l.toArray n l.length (Array.replicate l.toArray.size false) :=
    ⟨by simp, fun j oj _ hl => (by rw [getD_replicate_false] at hl; cases hl), fun t _ ht _ => getD_in (by simpa using ht) (getD_replicate_false _ _), fun _ h => absurd h (by simp)⟩
  have hstep : ∀ k o, k < n → l[k]? = some o → StepOk2 fr R P l n (known L) a0 W k o := fun k o hk ho => by
    have := steps_spec2 _ _ hsteps k o (by rw [List.getElem?_take_of_lt hk]; exact ho)
    rwa [Nat.zero_add] at this
  have H := pre_any2 (R := R) (P := P) (Q := Q) hfr htr hQ hn hp hsel hT hq (known_stays hI) hstep htail n (List.range n) (Array.replicate l.toArray.size false) a0 { W with drawn := W.drawn + 1 } (by simp) List.nodup_range (fun i => by
    rw [List.mem_range]
    constructor
    · intro hi; exact ⟨hi, getD_in (by simp; omega) (getD_replicate_false _ _)⟩
    · intro h; exact h.1) ⟨rfl, rfl, hb0, fun _ _ => rfl, (fun i o t _ _ _ hl => by rw [getD_replicate_false] at hl; exact absurd hl (by decide)), inv0, fun i j _ _ _ _ _ l1 _ => by rw [getD_replicate_false] at l1; exact absurd l1 (by decide)⟩
  have hlen : n + (tailIx l.length n l.length).length = l.toArray.size := by
    have : tailIx l.length n l.length = (List.range l.length).drop n := by
      unfold tailIx
      rw [List.filter_eq_self]
      intro k hk
      have := List.mem_range.1 (List.mem_of_mem_drop hk)
      simp; omega
    rw [this]; simp; omega
  rw [hlen] at H
  exact H
end
end Go.Proofs.Ytikffoepndpfjaa
