/-
  Which services are valid; what a decision keeps to. Conditions: small numbers.
-/
import Derived.Test.YtikffoepndpfjaaEn
import Derived.Test.YtikffoepndpfjaaMathb
namespace Go.Proofs.Ytikffoepndpfjaa
open Go.ChangeShapes Go.WideShapes Go.RowKit
set_option linter.unusedVariables false

set_option maxRecDepth 20000 in
set_option maxHeartbeats 2000000 in
theorem svalid_any (ph gr : Int) (A : Option Addr) (n c : Nat) (E : List Int) (w : World) (hn : E.length = n) (hI : Ints .i64 w w.heap.size A E) (hl : n ≤ 1000000) (hE : ∀ x ∈ E, -1 ≤ x ∧ x ≤ 1000) (hph : -1 ≤ ph ∧ ph < n) (hgr : 0 ≤ gr ∧ gr ≤ 60) (hz : ph = -1 → gr = 0) :
    Calls Try.prog 14 #[.agg #[.int .i64 ph, .int .i64 gr, .slice A n c], .int .i64 n] w fun e w' => e = .returned (.bool true) ∧ Below w.heap.size w w' := by
  have bX := lat_alloc (Below.refl w.heap.size w) (.cells #[.int .i64 ph, .int .i64 gr, .slice A n c] 24)
  have B0 := Blk.new (w := w) (t := 24) (cs := #[.int .i64 ph, .int .i64 gr, .slice A n c])
  have hIX := hI.grow bX
  go_enter Try.func14, Try.ntmps14
  go_wp2_with fail
  generalize w.alloc (.cells #[.int .i64 ph, .int .i64 gr, .slice A n c] 24) = W at *
  have HN := Lib.hid hn
  clear hn
  go_loopw [10] (fun i wr => ∃ k : Nat, k ≤ n ∧ i = .int .i64 k ∧ W = wr) (fun i _ => n - (intOf i).toNat)
  case atStart => exact ⟨0, by omega, rfl, rfl⟩
  case round =>
    obtain ⟨k, hk, rfl, hW⟩ := hrel
    subst hW
    have o0 := B0.at 0 rfl
    have o1 := B0.at 1 rfl
    have o2 := B0.at 2 rfl
    by_cases hlt : k < n
    · have hlt' : (k : Int) < n := by omega
      have hkE : k < E.length := by rw [HN.out]; exact hlt
      obtain ⟨b, off, rfl, hB, hc⟩ := hIX.sub hkE
      have hx := hE _ (at_mem hkE)
      generalize at_ E k = x at *
      have z1 : decide (x < -1) = false := by simp; omega
      have z2 : decide (x > 1073741824) = false := by simp; omega
      go_wp2
      go_roundw
      case rel => exact ⟨k + 1, by omega, by go_num, trivial⟩
      case measure => simp [intOf]; omega
    · have z1 : decide (-1 ≤ ph) = true := by simp; omega
      have z2 : decide (ph < (n : Int)) = true := by simp; omega
      have z3 : decide (0 ≤ gr) = true := by simp; omega
      have z4 : decide (gr ≤ 60) = true := by simp; omega
      by_cases q : ph = -1
      · have z5 : (ph != -1) = false := by simpa using q
        have z6 : (gr == 0) = true := by simpa using hz q
        clear q hz
        go_wp2
        go_ret
        exact ⟨rfl, bX⟩
      · have z5 : (ph != -1) = true := by simpa using q
        clear q hz
        go_wp2
        go_ret
        exact ⟨rfl, bX⟩
/-- What a decision keeps to. -/
theorem dec_serves {per cap hold lock ph gr : Int} {E : List Int} {C : List Cl} {now : Int} {n : Nat} {P G : Int} {E9 : List Int} (hd : decT per cap hold lock ph gr E C now = (P, G, E9)) (hn : E.length = n) (hph : -1 ≤ ph ∧ ph < n) (hC : ∀ x ∈ C, 0 ≤ x.ph ∧ x.ph < n) (hh : 1 ≤ hold) (hl : 0 ≤ lock) (hg : 0 ≤ gr) (hz : ph = -1 → gr = 0) :
    (0 ≤ P → (C.any fun z => z.ph == P) = true ∧ G < hold) ∧ ((C.any fun z => emB z.cl) = true → (C.any fun z => z.ph == P && emB z.cl) = true) ∧ (P = -1 → G = 0) ∧
      (0 ≤ P → G = 0 → ph ≠ P → (C.any fun z => z.ph == P && emB z.cl) = false → at_ E P.toNat ≠ -1 → lock < now - at_ E P.toNat) := by
  unfold decT at hd
  by_cases hm : (midT hold ph gr E C now).1 ≠ -1
  · rw [if_pos hm] at hd
    unfold midT at hd hm
    by_cases ho : ph ≠ -1 ∧ overB hold ph gr C = true
    · rw [if_pos ho] at hm; exact absurd rfl hm
    · rw [if_neg ho] at hd hm
      simp only [Prod.mk.injEq] at hd
      obtain ⟨rfl, rfl, rfl⟩ := hd
      have hm : ph ≠ -1 := hm
      have hov : overB hold ph gr C = false := by
        cases h : overB hold ph gr C with
        | true => exact absurd ⟨hm, h⟩ ho
        | false => rfl
      unfold overB at hov
      simp only [Bool.or_eq_false_iff, Bool.not_eq_false', decide_eq_false_iff_not, Bool.and_eq_false_iff] at hov
      obtain ⟨⟨h1, h2⟩, h3⟩ := hov
      refine ⟨fun _ => ⟨h1, by omega⟩, fun h => ?_, fun h => absurd h hm, fun _ _ h => absurd rfl h⟩
      rcases h3 with h3 | h3
      · rw [h] at h3; cases h3
      · simpa using h3
  · rw [if_neg hm] at hd
    have hm1 : (midT hold ph gr E C now).1 = -1 := by simpa using hm
    have hm2 : (midT hold ph gr E C now).2.1 = 0 := by
      unfold midT at hm1 ⊢
      split at hm1
      · rename_i h; rw [if_pos h]
      · rename_i h; rw [if_neg h]; exact hz hm1
    have hm3 : ∀ q : Nat, (q : Int) ≠ ph → q < n → at_ (midT hold ph gr E C now).2.2 q = at_ E q := fun q hq hqn => by
      unfold midT
      split
      · show at_ (endE ph gr E now) q = _
        rw [endE_at _ _ _ _ (by omega), if_neg (fun h => hq h.2)]
      · rfl
    have hm4 : (midT hold ph gr E C now).2.2.length = n := by
      unfold midT
      split
      · show (endE ph gr E now).length = n
        rw [endE_len]; exact hn
      · exact hn
    generalize (midT hold ph gr E C now).2.2 = Em at *
    have hb := best_all (per := per) (cap := cap) (lock := lock) (l := Em) (now := now) (C := C) C.length
    have hbd := bestK_bd per cap lock Em now C C.length
    have hlockem : ∀ x : Cl, emB x.cl = true → lockC lock Em now x = false := fun x hx => by unfold lockC lockB; rw [hx]; rfl
    by_cases hq : 0 ≤ bestK per cap lock Em now C C.length
    · rw [if_pos hq] at hd
      obtain ⟨j, hj⟩ := Int.eq_ofNat_of_zero_le hq
      rw [hj] at hd hbd
      simp only [Int.toNat_natCast, Prod.mk.injEq] at hd
      obtain ⟨rfl, rfl, _⟩ := hd
      have hjl : j < C.length := by omega
      have hbj := hb.2 j hj
      have hxm := clAt_mem hjl
      refine ⟨fun _ => ⟨List.any_eq_true.2 ⟨_, hxm, by simp⟩, by omega⟩, fun h => ?_, fun h => rfl, fun _ _ h1 h2 h3 => ?_⟩
      · obtain ⟨y, hy, hey⟩ := List.any_eq_true.1 h
        refine List.any_eq_true.2 ⟨_, hxm, ?_⟩
        obtain ⟨i, hi, e⟩ := List.mem_iff_getElem.1 hy
        have e' : clAt C i = y := by simp [clAt, hi, e]
        have h5 := hbj.2 i hi (by rw [e']; exact hlockem y hey)
        cases hx : emB (clAt C j).cl with
        | true => simp
        | false =>
          rw [e', less_em hey hx] at h5
          cases h5
      · have hcx := hC _ hxm
        have hne : emB (clAt C j).cl = false := by
          cases hx : emB (clAt C j).cl with
          | false => rfl
          | true =>
            have : (C.any fun z => z.ph == (clAt C j).ph && emB z.cl) = true := List.any_eq_true.2 ⟨_, hxm, by simp [hx]⟩
            rw [this] at h2; cases h2
        have hlk := hbj.1
        have hend : endV Em (clAt C j).ph = at_ E (clAt C j).ph.toNat := by
          unfold endV
          rw [if_neg (by omega)]
          exact hm3 _ (by omega) (by omega)
        unfold lockC lockB at hlk
        rw [hne, hend] at hlk
        simp only [Bool.not_false, Bool.true_and, Bool.and_eq_false_iff, Bool.not_eq_false', decide_eq_true_eq, decide_eq_false_iff_not] at hlk
        rcases hlk with h | h
        · exact absurd h h3
        · omega
    · rw [if_neg hq] at hd
      have hb1 : bestK per cap lock Em now C C.length = -1 := by omega
      have hP : P = -1 := by rw [← hm1, hd]
      have hG : G = 0 := by rw [← hm2, hd]
      refine ⟨fun h => by omega, fun h => ?_, fun _ => hG, fun h => by omega⟩
      obtain ⟨y, hy, hey⟩ := List.any_eq_true.1 h
      obtain ⟨i, hi, e⟩ := List.mem_iff_getElem.1 hy
      have e' : clAt C i = y := by simp [clAt, hi, e]
      have h5 := hb.1 hb1 i hi
      rw [e', hlockem y hey] at h5
      cases h5
end Go.Proofs.Ytikffoepndpfjaa
