/-
  A drawn region some of whose operations are guarded, all guards being known to hold. Conditions: none.
-/
import Derived.Test.YtohgnbpaffcpaaaMg
namespace Go.Proofs.Ytohgnbpaffcpaaa
open Go.ChangeShapes Go.WideShapes Go.ChangeAt Go.RowKit

def preBg (l : List Oper) (n m : Nat) : Bool :=
  (List.range n).all fun i => match l[i]? with
    | some o => (match o.dst with | some t => decide (t < m) && ((List.range n).all fun j => j == i || ((l[j]?).bind (·.dst)) != some t) | none => false) && (match o.guard with | none => true | some (j, _) => decide (j < n) && Region.waitsFor .any l.toArray i j) && o.after.all (fun e => !Region.binds .any e || decide (e.on < i))
    | none => false
def monoEg (l : List Oper) (n m e : Nat) : Bool :=
  decide (n ≤ l.length) && preBg l n m && Region.noSelect l.toArray && (n == l.length || (lateOk l n && sinkL l n && chainE l n e && n != e)) && seqI l.toArray (tailIx l.length n e) (listedE l.length n e)
theorem preBg_spec {l : List Oper} {n m i : Nat} (h : preBg l n m = true) (hi : i < n) : ∃ o t, l[i]? = some o ∧ o.dst = some t ∧ t < m ∧ (∀ j b, o.guard = some (j, b) → j < n ∧ Region.waitsFor .any l.toArray i j = true) ∧ (∀ e ∈ o.after, Region.binds .any e = true → e.on < i) ∧ ∀ j oj, j < n → l[j]? = some oj → oj.dst = some t → j = i := by
  have h1 := List.all_eq_true.1 h i (List.mem_range.2 hi)
  cases ho : l[i]? with
  | none => rw [ho] at h1; cases h1
  | some o =>
    rw [ho] at h1
    cases hd : o.dst with
    | none => simp [hd] at h1
    | some t =>
      simp only [hd, Bool.and_eq_true, decide_eq_true_eq] at h1
      obtain ⟨⟨⟨h2, h3⟩, h4⟩, h5⟩ := h1
      refine ⟨o, t, rfl, hd, h2, (fun j b hg => by rw [hg] at h4; simpa using h4), fun e he hb => ?_, fun j oj hj hoj hdj => ?_⟩
      · have := Array.all_eq_true'.1 h5 e he
        rw [hb] at this
        simpa using this
      · have := List.all_eq_true.1 h3 j (List.mem_range.2 hj)
        rw [hoj] at this
        simp only [Option.bind_some, hdj, Bool.or_eq_true, beq_iff_eq, bne_self_eq_false, Bool.false_eq_true, or_false] at this
        exact this
section
variable {R : World → World → Prop} {P : Program} {l : List Oper} {n e : Nat} {I : Nat → Value → World → Prop} {a0 : Act} {W : World} {Q : Exit → Act → World → Prop}

theorem pre_anyg (hG : ∀ i o j b, i < n → l[i]? = some o → o.guard = some (j, b) → ∀ v w, I j v w → v = .bool b) (htr : ∀ {a b c}, R a b → R b c → R a c) (hQ : ∀ c (a : Act) d v w, Q (.panic c) (a.put d v) w → Q (.panic c) a w) (hn : n ≤ l.length) (hp : preBg l n a0.tmps.size = true) (hsel : Region.noSelect l.toArray = true) (hT : n = l.length ∨ (lateOk l n = true ∧ sinkL l n = true ∧ chainE l n e = true ∧ n ≠ e)) (hq : seqI l.toArray (tailIx l.length n e) (listedE l.length n e) = true)
    (hI : ∀ i v w w', I i v w → R w w' → I i v w')
    (hstep : ∀ k o, k < n → l[k]? = some o → StepOk R P l n I a0 W k o)
    (htail : ∀ (vs : Nat → Value) w, R W w → (∀ i, i < n → I i (vs i) w) → wpList P l.toArray Q (tailOps l n e) (putAll vs (l.take n) 0 a0) w) :
    ∀ (f : Nat) (U : List Nat) (listed : Array Bool) (a : Act) (w : World), U.length = f → U.Nodup → (∀ i, i ∈ U ↔ (i < n ∧ listed.getD i true = false)) → MonoInv R l n e I a0 W listed a w →
      wpAny P .any l.toArray Q (f + (tailIx l.length n e).length) listed a w
  | 0, U, listed, a, w, hU, _, hUl, inv => by
    have hnil : U = [] := List.eq_nil_of_length_eq_zero hU
    subst hnil
    have hsz : listed.size = l.length := by simpa using inv.head.size
    have hall : ∀ i, i < n → listed.getD i false = true := fun i hi => by
      have h1 : ¬ (listed.getD i true = false) := fun h => by have := (hUl i).2 ⟨hi, h⟩; cases this
      have hlt : i < listed.size := by omega
      simp only [Array.getD_eq_getD_getElem?, Array.getElem?_eq_getElem hlt, Option.getD_some] at h1 ⊢
      simpa using h1
    have hL : listed = listedE l.length n e := by
      apply Array.ext
      · simp [listedE, hsz]
      · intro i h1 h2
        rcases Nat.lt_or_ge i n with h | h
        · have := hall i h
          simp only [Array.getD_eq_getD_getElem?, Array.getElem?_eq_getElem h1, Option.getD_some] at this
          rw [this]; simp [listedE, h]
        · by_cases hie : i = e
          · subst hie
            have := inv.head.early h (by simpa using (by omega : i < l.length))
            simp only [Array.getD_eq_getD_getElem?, Array.getElem?_eq_getElem h1, Option.getD_some] at this
            rw [this]; simp [listedE]
          · have := inv.head.tail i h (by simpa using (by omega : i < l.length)) hie
            simp only [Array.getD_eq_getD_getElem?, Array.getElem?_eq_getElem h1, Option.getD_some] at this
            rw [this]; simp [listedE, hie]; omega
    have hfx : ∀ i, i < n → ∃ v t o, l[i]? = some o ∧ o.dst = some t ∧ a.tmps[t]? = some v ∧ I i v w := fun i hi => by
      obtain ⟨o, t, ho, hd, _⟩ := preBg_spec hp hi
      obtain ⟨v, hv, hIv⟩ := inv.facts i o t hi ho hd (hall i hi)
      exact ⟨v, t, o, ho, hd, hv, hIv⟩
    let vs : Nat → Value := fun i => a.tmps.getD (((l[i]?).bind (·.dst)).getD 0) undef
    have hvs : ∀ i o t v, l[i]? = some o → o.dst = some t → a.tmps[t]? = some v → vs i = v := fun i o t v ho hd hv => by
      show a.tmps.getD _ undef = v
      rw [ho]; simp only [Option.bind_some, hd, Option.getD_some, Array.getD_eq_getD_getElem?, hv]
    have ha : putAll vs (l.take n) 0 a0 = a := by
      have e1 := putAll_size vs (l.take n) 0 a0
      have e2 : (putAll vs (l.take n) 0 a0).tmps = a.tmps := by
        apply Array.ext_getElem?
        intro t
        by_cases hex : ∃ i o, i < n ∧ l[i]? = some o ∧ o.dst = some t
        · obtain ⟨i, o, hi, ho, hd⟩ := hex
          obtain ⟨o', t', ho', hd', htm, _, _, huni⟩ := preBg_spec hp hi
          have eo : o' = o := Option.some.inj (ho'.symm.trans ho)
          subst eo
          have et : t' = t := Option.some.inj (hd'.symm.trans hd)
          subst et
          obtain ⟨v, hv, _⟩ := inv.facts i o' t' hi ho hd (hall i hi)
          rw [putAll_eq vs t' (l.take n) 0 i a0 o' (by rw [List.getElem?_take_of_lt hi]; exact ho) hd (fun j oj hj hdj => by
            rcases Nat.lt_or_ge j n with h | h
            · rw [List.getElem?_take_of_lt h] at hj; exact huni j oj h hj hdj
            · rw [List.getElem?_eq_none (by simp; omega)] at hj; cases hj) htm, hv, Nat.zero_add, hvs i o' t' v ho hd hv]
        · have hno : ∀ i o, i < n → l[i]? = some o → o.dst ≠ some t := fun i o hi ho hd => hex ⟨i, o, hi, ho, hd⟩
          rw [putAll_ne vs t (l.take n) 0 a0 (fun i o hi hd => by
            rcases Nat.lt_or_ge i n with h | h
            · rw [List.getElem?_take_of_lt h] at hi; exact hno i o h hi hd
            · rw [List.getElem?_eq_none (by simp; omega)] at hi; cases hi), inv.frame t hno]
      have e3 := e1.2.trans inv.defers.symm
      cases hx : putAll vs (l.take n) 0 a0 with
      | mk t1 d1 =>
        cases a with
        | mk t2 d2 =>
          rw [hx] at e2 e3
          simp only at e2 e3
          rw [e2, e3]
    have H := htail vs w inv.grown (fun i hi => by
      obtain ⟨v, t, o, ho, hd, hv, hIv⟩ := hfx i hi
      rw [hvs i o t v ho hd hv]; exact hIv)
    rw [ha] at H
    rw [Nat.zero_add]
    exact wpAny_of_seqI (tailIx l.length n e) listed a w (fun k hk => by
      have := (List.mem_filter.1 hk).1
      have := List.mem_range.1 (List.mem_of_mem_drop this)
      simpa using this) (by rw [hL]; exact hq) (by simpa [tailOps] using H)
  | f + 1, U, listed, a, w, hU, hnd, hUl, inv => by
    have hsz : listed.size = l.length := by simpa using inv.head.size
    obtain ⟨u, hu⟩ : ∃ u, u ∈ U := by
      cases U with
      | nil => cases hU
      | cons u _ => exact ⟨u, by simp⟩
    have hun := (hUl u).1 hu
    rw [show f + 1 + (tailIx l.length n e).length = (f + (tailIx l.length n e).length) + 1 by omega]
    have hlen : l.toArray.size = l.length := by simp
    -- the least that has not come up may come up
    have hleast : ∀ m u, u ≤ m → u < n → listed.getD u true = false → ∃ r, r < n ∧ r ≤ u ∧ listed.getD r true = false ∧ r ∈ Region.ready .any l.toArray listed := by
      intro m
      induction m with
      | zero =>
        intro u hum hun' hul
        have hu0 : u = 0 := by omega
        subst hu0
        obtain ⟨o, t, ho, hd, _, _, haft, _⟩ := preBg_spec hp hun'
        exact ⟨0, hun', Nat.le_refl _, hul, mem_ready.2 ⟨hul, o, by simpa using ho, fun e he hb => by have := haft e he hb; omega⟩⟩
      | succ m ih =>
        intro u hum hun' hul
        obtain ⟨o, t, ho, hd, _, _, haft, _⟩ := preBg_spec hp hun'
        by_cases hr : ∀ e ∈ o.after, Region.binds .any e = true → listed.getD e.on false = true
        · exact ⟨u, hun', Nat.le_refl _, hul, mem_ready.2 ⟨hul, o, by simpa using ho, hr⟩⟩
        · have : ∃ e, e ∈ o.after ∧ Region.binds .any e = true ∧ ¬ (listed.getD e.on false = true) := Classical.byContradiction fun h => hr fun e he hb => Classical.byContradiction fun h' => h ⟨e, he, hb, h'⟩
          obtain ⟨e, he, hb, hne⟩ := this
          have hlt := haft e he hb
          have hlt' : e.on < listed.size := by omega
          obtain ⟨r, h1, h2, h3, h4⟩ := ih e.on (by omega) (by omega) (by
            simp only [Array.getD_eq_getD_getElem?, Array.getElem?_eq_getElem hlt', Option.getD_some] at hne ⊢
            simpa using hne)
          exact ⟨r, h1, by omega, h3, h4⟩
    -- what the operation i does, and what is then known
    have hgo : ∀ i o, i < n → i ∈ Region.ready .any l.toArray listed → l[i]? = some o → OpOk P o a.eval w (fun v w' => R w w' ∧ I i v w') ∧ Region.wanted o (yielded l.toArray a.tmps) = true ∧
        ∀ v w', R w w' → I i v w' → wpAny P .any l.toArray Q (f + (tailIx l.length n e).length) (listed.setIfInBounds i true) (a.put o.dst v) w' := fun i oi hin hi hoi' => by
      obtain ⟨hil, oi', hoi, hall⟩ := mem_ready.1 hi
      have eo0 : oi' = oi := Option.some.inj ((by simpa using hoi : l[i]? = some oi').symm.trans hoi')
      subst eo0
      obtain ⟨o, t, ho, hd, htm, hg, haft, huni⟩ := preBg_spec hp hin
      have eo : o = oi' := Option.some.inj (ho.symm.trans hoi')
      subst eo
      have hop := hstep i o hin ho a.eval w inv.grown (fun _ => rfl) (fun _ => rfl) (fun t' ht' => by
          show a.tmps.getD t' undef = a0.tmps.getD t' undef
          rw [Array.getD_eq_getD_getElem?, Array.getD_eq_getD_getElem?, inv.frame t' (fun j oj hj hoj hdj => ht' j hj (by rw [hoj]; exact hdj))])
        (fun j tj hw hdj => by
          obtain ⟨o', ho', e, he, hb, hon⟩ := Region.waitsFor_spec hw
          have eo : o' = o := Option.some.inj (ho'.symm.trans hoi)
          subst eo
          have hlj := hall e he hb
          rw [hon] at hlj
          have hji : j < i := by have := haft e he hb; omega
          cases hoj : l[j]? with
          | none => rw [hoj] at hdj; cases hdj
          | some oj =>
            rw [hoj] at hdj
            have hdj' : oj.dst = some tj := by simpa using hdj
            obtain ⟨v, hv, hIv⟩ := inv.facts j oj tj (by omega) hoj hdj' hlj
            show I j (a.tmps.getD tj undef) w
            rw [Array.getD_eq_getD_getElem?, hv]; exact hIv)
      have hgW : Region.wanted o (yielded l.toArray a.tmps) = true := by
        unfold Region.wanted
        cases hgd : o.guard with
        | none => rfl
        | some p =>
          obtain ⟨j, b⟩ := p
          obtain ⟨hjn, hw⟩ := hg j b hgd
          obtain ⟨o', ho', e, he, hb, hon⟩ := Region.waitsFor_spec hw
          have eo : o' = o := Option.some.inj (ho'.symm.trans hoi)
          subst eo
          have hlj := hall e he hb
          rw [hon] at hlj
          obtain ⟨oj, tj, hoj, hdj, _⟩ := preBg_spec hp hjn
          obtain ⟨v, hv, hIv⟩ := inv.facts j oj tj hjn hoj hdj hlj
          have hvb := hG i o' j b hin ho hgd v w hIv
          subst hvb
          show (yielded l.toArray a.tmps j == some b) = true
          unfold yielded
          simp [hoj, hdj, hv]
      refine ⟨hop, hgW, fun v w' hbw hIv => ?_⟩
      refine pre_anyg hG htr hQ hn hp hsel hT hq hI hstep htail f (U.erase i) _ _ _ ?_ (hnd.erase i) (fun j => ?_) ⟨?_, ?_, ?_, ?_, ?_, inv.head.set hi hin⟩
      · rw [List.length_erase_of_mem ((hUl i).2 ⟨hin, hil⟩), hU]; rfl
      · rw [hnd.mem_erase_iff, hUl j]
        by_cases hij : i = j
        · subst hij
          constructor
          · intro h; exact absurd rfl h.1
          · intro h
            have hlt : i < listed.size := by omega
            have := h.2
            simp [hlt] at this
        · rw [getD_set_ne true hij]
          constructor
          · intro h; exact h.2
          · intro h; exact ⟨fun e => hij e.symm, h⟩
      · rw [put_size]; exact inv.tsize
      · rw [put_defers']; exact inv.defers
      · exact htr inv.grown hbw
      · intro t' ht'
        rw [put_get_ne _ _ _ _ (ht' i o hin ho)]; exact inv.frame t' ht'
      · intro j oj tj hj hoj hdj hlj
        by_cases hij : i = j
        · subst hij
          have eo : o = oj := Option.some.inj (ho.symm.trans hoj)
          subst eo
          rw [hdj]
          have htj : tj = t := Option.some.inj (hdj.symm.trans hd)
          subst htj
          exact ⟨v, put_get_eq _ _ _ (by rw [inv.tsize]; exact htm), hIv⟩
        · rw [getD_set_ne false hij] at hlj
          obtain ⟨v', hv', hI'⟩ := inv.facts j oj tj hj hoj hdj hlj
          refine ⟨v', ?_, hI _ _ _ _ hI' hbw⟩
          rw [put_get_ne _ _ _ _ (fun e => hij (huni j oj hj hoj (by rw [hdj]; rw [hd] at e; exact e.symm)).symm)]
          exact hv'
    have hplain : (∀ i ∈ Region.ready .any l.toArray listed, i < n) → wpAny P .any l.toArray Q ((f + (tailIx l.length n e).length) + 1) listed a w := fun hall' => by
      refine ⟨fun h0 => ?_, fun i hi => ?_⟩
      · obtain ⟨r, _, _, _, hr⟩ := hleast u u (Nat.le_refl _) hun.1 hun.2
        rw [h0] at hr; cases hr
      · have hin := hall' i hi
        obtain ⟨_, o, hoi, _⟩ := mem_ready.1 hi
        obtain ⟨hop, hg, hnext⟩ := hgo i o hin hi (by simpa using hoi)
        unfold wpOp
        rw [hoi]
        simp only
        rw [if_pos (hg)]
        exact .inl (wp_of_opOk hop fun v w' hR => hnext v w' hR.1 hR.2)
    rcases hT with hT | ⟨hlt, hs, hc, hnE⟩
    · refine hplain fun i hi => ?_
      obtain ⟨_, o, hoi, _⟩ := mem_ready.1 hi
      have := (Array.getElem?_eq_some_iff.1 hoi).1
      omega
    by_cases hfl : ∃ i, i < n ∧ lateB l n i = true ∧ i ∈ Region.ready .any l.toArray listed
    · obtain ⟨i, hin, hla, hi⟩ := hfl
      obtain ⟨hil, o, hoi, hall⟩ := mem_ready.1 hi
      have ho : l[i]? = some o := by simpa using hoi
      obtain ⟨hop, hg, hnext⟩ := hgo i o hin hi ho
      obtain ⟨hpu, hap⟩ := late_spec hlt hin hla ho
      obtain ⟨v, hv, hR⟩ := pure_op hpu hop
      refine wpAny_first hoi (Region.noSelect_spec hsel) (fun c a w => hQ c a o.dst v w) (f + (tailIx l.length n e).length) listed a w (fun j oj hj hne hun' hno => hap j oj (by simpa using hj) hne ?_ hno) hi (.inl ⟨hg, hv⟩) (hnext v w hR.1 hR.2)
      -- one that it waits for has come up
      cases hw : Region.waitsFor .any l.toArray i j with
      | false => rfl
      | true =>
        obtain ⟨o', ho', e, he, hb, hon⟩ := Region.waitsFor_spec hw
        have eo : o' = o := Option.some.inj (ho'.symm.trans hoi)
        subst eo
        have h2 := hall e he hb
        rw [hon, getD_both hun'] at h2
        cases h2
    · refine hplain fun i hi => ?_
      rcases Nat.lt_or_ge i n with h | h
      · exact h
      · exfalso
        obtain ⟨r, hrn, _, hrl, hr⟩ := hleast u u (Nat.le_refl _) hun.1 hun.2
        cases hla : lateB l n r with
        | true => exact hfl ⟨r, hrn, hla, hr⟩
        | false => exact tail_waitsL hs hc hnE hn inv.head _ r rfl hrn hla hrl i h hi

/-- Every guard of a list is known to hold. -/
def GuardsOk (I : Nat → Value → World → Prop) : List Oper → Prop
  | [] => True
  | o :: r => (match o.guard with | none => True | some (j, b) => ∀ v w, I j v w → v = .bool b) ∧ GuardsOk I r
theorem guards_nil {I : Nat → Value → World → Prop} : GuardsOk I [] := trivial
theorem guards_none {I : Nat → Value → World → Prop} {o : Oper} {r : List Oper} (hg : o.guard = none) (h : GuardsOk I r) : GuardsOk I (o :: r) := ⟨by rw [hg]; trivial, h⟩
theorem guards_some {I : Nat → Value → World → Prop} {o : Oper} {r : List Oper} (j : Nat) (b : Bool) (hg : o.guard = some (j, b)) (h1 : ∀ v w, I j v w → v = .bool b) (h : GuardsOk I r) : GuardsOk I (o :: r) := ⟨by rw [hg]; exact h1, h⟩
theorem guards_spec {I : Nat → Value → World → Prop} : ∀ (l : List Oper), GuardsOk I l → ∀ (i : Nat) (o : Oper), l[i]? = some o → ∀ (j : Nat) (b : Bool), o.guard = some (j, b) → ∀ v w, I j v w → v = .bool b
  | [], _, _, _, h, _, _, _ => by cases h
  | _ :: _, hs, 0, o, h, j, b, hg => by
    injection h with h; subst h
    have h1 := hs.1
    rw [hg] at h1
    exact h1
  | _ :: r, hs, i + 1, o, h, j, b, hg => guards_spec r hs.2 i o (by simpa using h) j b hg
theorem wp_region_preg {id : Nat} (n m : Nat) (L : List (Value → World → Prop)) (htr : ∀ {a b c}, R a b → R b c → R a c) (hdr : ∀ (w : World) n, R w (w.drewN n)) (hm : P.follows .mixedOrders = true) (hQ : ∀ c (a : Act) d v w, Q (.panic c) (a.put d v) w → Q (.panic c) a w) (hz : a0.tmps.size = m) (hB : monoEg l n m l.length = true)
    (hI : AllStay R L) (hG : GuardsOk (known L) (l.take n)) (hsteps : StepsOk R P l n (known L) a0 W (l.take n) 0)
    (htail : ∀ (vs : Nat → Value) w, R W w → (∀ i, i < n → known L i (vs i) w) → wpList P l.toArray Q (l.drop n) (putAll vs (l.take n) 0 a0) w) :
    (Code.region id l.toArray true).wp P Q a0 W := by
  subst hz
  rw [← tailOps_all] at htail
  simp only [monoEg, Bool.and_eq_true, Bool.or_eq_true, beq_iff_eq, bne_iff_ne, decide_eq_true_eq, and_assoc] at hB
  obtain ⟨hn, hp, hsel, hT, hq⟩ := hB
  refine wp_region_any hm ?_
  have hb0 : R W { W with drawn := W.drawn + 1 } := hdr W 1
  have inv0 : HeadE l.toArray n l.length (Array.replicate l.toArray.size false) :=
    ⟨by simp, fun j oj _ hl => (by rw [getD_replicate_false] at hl; cases hl), fun t _ ht _ => getD_in (by simpa using ht) (getD_replicate_false _ _), fun _ h => absurd h (by simp)⟩
  have hstep : ∀ k o, k < n → l[k]? = some o → StepOk R P l n (known L) a0 W k o := fun k o hk ho => by
    have := steps_spec _ _ hsteps k o (by rw [List.getElem?_take_of_lt hk]; exact ho)
    rwa [Nat.zero_add] at this
  have H := pre_anyg (R := R) (P := P) (Q := Q) (fun i o j b hi ho hg => guards_spec _ hG i o (by rw [List.getElem?_take_of_lt hi]; exact ho) j b hg) htr hQ hn hp hsel hT hq (known_stays hI) hstep htail n (List.range n) (Array.replicate l.toArray.size false) a0 { W with drawn := W.drawn + 1 } (by simp) List.nodup_range (fun i => by
    rw [List.mem_range]
    constructor
    · intro hi; exact ⟨hi, getD_in (by simp; omega) (getD_replicate_false _ _)⟩
    · intro h; exact h.1) ⟨rfl, rfl, hb0, fun _ _ => rfl, (fun i o t _ _ _ hl => by rw [getD_replicate_false] at hl; exact absurd hl (by decide)), inv0⟩
  have hlen : n + (tailIx l.length n l.length).length = l.toArray.size := by
    have : tailIx l.length n l.length = (List.range l.length).drop n := by
      unfold tailIx
      rw [List.filter_eq_self]
      intro k hk
      have := List.mem_range.1 (List.mem_of_mem_drop hk)
      simp; omega
    rw [this]; simp; omega
  rw [hlen] at H
  exact H
end
end Go.Proofs.Ytohgnbpaffcpaaa
