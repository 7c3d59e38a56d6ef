/-
  Does every group below the greatest one occur? Is a junction valid? Conditions: a slice as long as its room at most.
-/
import Derived.Test.YtngdaieopnadbaaAp
namespace Go.Proofs.Ytngdaieopnadbaa
open Go.ChangeShapes Go.WideShapes Go.RowKit
set_option linter.unusedVariables false

theorem of_n (A B : Option Addr) (c d n m : Nat) (P : List Ph) (st r g : Int) (w : World) (hn : P.length = n) (hP : Phs w w.heap.size A P) (hl : n ≤ 60) :
    Calls Try.prog 13 #[.agg #[.slice A n c, .slice B m d, .int .i64 st], .int .i64 r, .int .i64 g] w fun e w' => ∃ (A' : Option Addr) (c' : Nat), e = .returned (.slice A' (ofL P r g n).length c') ∧ Below w.heap.size w w' ∧ Ints .i64 w' w'.heap.size A' (ofL P r g n) := by
  subst hn
  have := of_any A B c d P (List.replicate m 0) st r g w hP hl
  rw [List.length_replicate] at this
  exact this.mono fun e w' ⟨h1, A', c', h2, h3⟩ => ⟨A', c', h2, h1, h3⟩
theorem groups_n (A B : Option Addr) (c d n m : Nat) (P : List Ph) (st : Int) (w : World) (hn : P.length = n) (hP : Phs w w.heap.size A P) (hl : n ≤ 60) (hg : ∀ i, i < n → 0 ≤ (phAt P i).gr ∧ (phAt P i).gr ≤ 3) :
    Calls Try.prog 15 #[.agg #[.slice A n c, .slice B m d, .int .i64 st]] w fun e w' => e = .returned (.int .i64 (groupsI P n)) ∧ Below w.heap.size w w' := by
  subst hn
  have := groups_any A B c d P (List.replicate m 0) st w hP hl hg
  rw [List.length_replicate] at this
  exact this
theorem of_pos (P : List Ph) (r g : Int) : ∀ k, 0 < (ofL P r g k).length ↔ ∃ i, i < k ∧ (phAt P i).ri = r ∧ (phAt P i).gr = g
  | 0 => by simp [ofL]
  | k + 1 => by
    have ih := of_pos P r g k
    rw [ofL]
    split
    · rename_i h
      simp only [List.length_append, List.length_singleton]
      exact ⟨fun _ => ⟨k, by omega, h⟩, fun _ => by omega⟩
    · rename_i h
      rw [ih]
      constructor
      · rintro ⟨i, hi, hh⟩; exact ⟨i, by omega, hh⟩
      · rintro ⟨i, hi, hh⟩
        by_cases e : i = k
        · subst e; exact absurd hh h
        · exact ⟨i, by omega, hh⟩
/-- r tells whether every group below the greatest one occurs. -/
def Den (P : List Ph) (n : Nat) (r : Bool) : Prop := r = true ↔ ∀ g : Nat, (g : Int) < groupsI P n → ∃ i, i < n ∧ (phAt P i).gr = g
set_option maxHeartbeats 2000000 in
theorem dense_any (A B : Option Addr) (c d n m : Nat) (P : List Ph) (st : Int) (w : World) (hn : P.length = n) (hP : Phs w w.heap.size A P) (hl : n ≤ 60) (hp : ∀ i, i < n → placeB (phAt P i) = true) :
    Calls Try.prog 33 #[.agg #[.slice A n c, .slice B m d, .int .i64 st]] w fun e w' => Below w.heap.size w w' ∧ ∃ r : Bool, e = .returned (.bool r) ∧ Den P n r := by
  have HN := Lib.hid hn
  clear hn
  have hpl : ∀ i, i < n → (0 ≤ (phAt P i).ri ∧ (phAt P i).ri ≤ 1) ∧ 0 ≤ (phAt P i).gr ∧ (phAt P i).gr ≤ 3 := fun i hi => by
    have := hp i hi
    simpa [placeB, inR] using this
  have HPL := Lib.hid hpl
  have hgb := groups_bd (P := P) (fun i hi => (hpl i (by have := HN.out; omega)).2) n (by have := HN.out; omega)
  clear hpl hp
  have bW := lat_alloc (Below.refl w.heap.size w) (.cells #[.slice A n c, .slice B m d, .int .i64 st] 25)
  have BJ := Blk.new (w := w) (t := 25) (cs := #[.slice A n c, .slice B m d, .int .i64 st])
  have hP1 := hP.grow bW
  go_enter Try.func33, Try.ntmps33
  have j0 := BJ.at 0 rfl
  have j1 := BJ.at 1 rfl
  have j2 := BJ.at 2 rfl
  go_wp2_with fail
  generalize w.alloc (.cells #[.slice A n c, .slice B m d, .int .i64 st] 25) = W at *
  refine (groups_n A B c d n m P st W HN.out hP1 hl (fun i hi => (HPL.out i hi).2)).mono ?_
  rintro e W2 ⟨rfl, hb2⟩
  clear j0 j1 j2
  have BJ2 := BJ.below hb2
  have hP2 := hP1.grow hb2
  have bW2 := bW.trans (hb2.mono bW.size)
  clear hb2 BJ hP1 bW
  obtain ⟨G, hG⟩ := Int.eq_ofNat_of_zero_le hgb.1
  rw [hG] at hgb ⊢
  have HG := Lib.hid hG
  clear hG
  go_wp2_with fail
  go_loopw [8] (fun v wr => ∃ k : Nat, v = .int .i64 k ∧ Below W2.heap.size W2 wr ∧ k ≤ G ∧ ∀ g, g < k → ∃ i, i < n ∧ (phAt P i).gr = (g : Int)) (fun v _ => G - (intOf v).toNat)
  case atStart => exact ⟨0, rfl, Below.refl _ _, by omega, fun g hg => absurd hg (by omega)⟩
  case round =>
    obtain ⟨k, rfl, hbr, hk, hyes⟩ := hrel
    by_cases hlt : k < G
    · have hltZ : (k : Int) < G := by omega
      go_wp2
      go_loopw [4, 11] (fun s4 v ws => ∃ (r : Nat) (f : Bool), s4 = .bool f ∧ v = .int .i64 r ∧ Below W2.heap.size W2 ws ∧ r ≤ 2 ∧ (f = true ↔ ∃ i, i < n ∧ (phAt P i).gr = (k : Int) ∧ (phAt P i).ri < r)) (fun _ v _ => 2 - (intOf v).toNat)
      case atStart => exact ⟨0, false, rfl, rfl, hbr, by omega, by
        simp only [Bool.false_eq_true, false_iff]
        rintro ⟨i, hi, _, h⟩
        have := (HPL.out i hi).1; omega⟩
      case round =>
        obtain ⟨r, f, rfl, rfl, hbs, hr, hf⟩ := hrel
        have HF := Lib.hid hf
        clear hf
        by_cases hlr : r < 2
        · have hlrZ : (r : Int) < 2 := by omega
          cases f with
          | true =>
            go_wp2
            go_roundw
            case rel => exact ⟨r + 1, true, rfl, by go_num, hbs, by omega, by
              simp only [true_iff]
              obtain ⟨i, hi, h1, h2⟩ := HF.out.1 rfl
              exact ⟨i, hi, h1, by omega⟩⟩
            case measure => simp [intOf]; omega
          | false =>
            have BJs := BJ2.below hbs
            have j0 := BJs.at 0 rfl
            have j1 := BJs.at 1 rfl
            have j2 := BJs.at 2 rfl
            clear BJs
            go_wp2_with fail
            refine (of_n A B c d n m P st r k _ HN.out (hP2.grow hbs) hl).mono ?_
            rintro e W3 ⟨A', c', rfl, hb3, hI3⟩
            have hb4 := hbs.trans (hb3.mono hbs.size)
            have hz := of_pos P r k n
            have HZ := Lib.hid hz
            have hle := of_le P r k n
            generalize (ofL P r k n).length = z at *
            clear hz j0 j1 j2 hI3 hb3
            by_cases h0 : 0 < z
            · have h0Z : (0 : Int) < z := by omega
              go_wp2
              go_roundw
              case rel => exact ⟨r + 1, true, rfl, by go_num, hb4, by omega, by
                simp only [true_iff]
                obtain ⟨i, hi, h1, h2⟩ := HZ.out.1 h0
                exact ⟨i, hi, h2, by omega⟩⟩
              case measure => simp [intOf]; omega
            · have h0Z : ¬ (0 : Int) < z := by omega
              go_wp2
              go_roundw
              case rel => exact ⟨r + 1, false, rfl, by go_num, hb4, by omega, by
                simp only [Bool.false_eq_true, false_iff]
                rintro ⟨i, hi, h1, h2⟩
                by_cases e : (phAt P i).ri = r
                · exact h0 (HZ.out.2 ⟨i, hi, e, h1⟩)
                · exact absurd (HF.out.2 ⟨i, hi, h1, by omega⟩) (by simp)⟩
              case measure => simp [intOf]; omega
        · have hlrZ : ¬ (r : Int) < 2 := by omega
          have hr2 : r = 2 := by omega
          subst hr2
          cases f with
          | true =>
            go_wp2
            go_roundw
            case rel => exact ⟨k + 1, by go_num, hbs, by omega, fun g hg => by
              by_cases e : g = k
              · subst e
                obtain ⟨i, hi, h1, h2⟩ := HF.out.1 rfl
                exact ⟨i, hi, h1⟩
              · exact hyes g (by omega)⟩
            case measure => simp [intOf]; omega
          | false =>
            go_wp2
            go_ret
            exact ⟨bW2.trans (hbs.mono bW2.size), .inl ⟨rfl, by
              unfold Den
              simp only [Bool.false_eq_true, false_iff]
              intro h
              obtain ⟨i, hi, h1⟩ := h k (by have := HG.out; omega)
              have := HF.out.2 ⟨i, hi, h1, by have := (HPL.out i hi).1; omega⟩
              cases this⟩⟩
    · have hltZ : ¬ (k : Int) < G := by omega
      go_wp2
      go_ret
      exact ⟨bW2.trans (hbr.mono bW2.size), .inr ⟨rfl, by
        unfold Den
        simp only [true_iff]
        intro g hg
        exact hyes g (by have := HG.out; omega)⟩⟩
end Go.Proofs.Ytngdaieopnadbaa
