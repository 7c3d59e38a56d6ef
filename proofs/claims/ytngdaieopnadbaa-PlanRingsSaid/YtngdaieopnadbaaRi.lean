/-
  The law PlanRings answers true: its walk. Conditions: none.
-/
import Derived.Test.YtngdaieopnadbaaAw
namespace Go.Proofs.Ytngdaieopnadbaa
open Go.ChangeShapes Go.WideShapes Go.RowKit
set_option linter.unusedVariables false

theorem mod_p {a m r : Int} (hr : modI a m = r) (h : 0 < m) (h8 : m ≤ 4294967296) (a0 : -9223372036854775808 ≤ a) (a1 : a ≤ 9223372036854775807) (w : World) : Calls Try.prog 19 #[.int .i64 a, .int .i64 m] w fun e w' => e = .returned (.int .i64 r) ∧ w = w' := by
  rw [← hr]; exact mod_any a m h h8 a0 a1 w
theorem bit_any (x : Int) (k : Nat) : (bits .and .i64 (x / 2 ^ k) 1 == 1) = hasB x k := by unfold hasB; exact and_1 _
theorem bit_zero (x : Int) (k : Nat) (h : hasB x k = true) : (bits .and .i64 (x / 2 ^ k) 1 == 0) = false := by
  have := bit_any x k
  rw [h] at this
  have := beq_iff_eq.1 this
  rw [this]; rfl
theorem plan_c {A B : Option Addr} {c d n m : Nat} {P : List Ph} {C : List Int} {st : Int} {b : Bool} (h : junB P C st = b) (w : World) (hn : P.length = n) (hm : C.length = m) (hP : Phs w w.heap.size A P) (hI : Ints .i64 w w.heap.size B C) (hc : n ≤ c) :
    Calls Try.prog 11 #[.agg #[.slice A n c, .slice B m d, .int .i64 st]] w fun e w' => e = .returned (.bool b) ∧ Below w.heap.size w w' := by
  subst h; exact plan_any A B c d n m P C st w hn hm hP hI hc
theorem shOf_le (S : List (Int × Int)) (r g : Int) : ∀ k, shOf S r g k ≤ k
  | 0 => by simp [shOf]
  | k + 1 => by
    have := shOf_le S r g k
    rw [shOf]; split <;> omega
theorem shSum_le (S : List (Int × Int)) (r : Int) (h : S.length ≤ 8) : ∀ k, shSum S r k ≤ 8 * k
  | 0 => by simp [shSum]
  | k + 1 => by
    have h1 := shSum_le S r h k
    have h2 := shOf_le S r k S.length
    rw [shSum]; omega
/-- All phases of the first r rings. -/
def sumR (S : List (Int × Int)) (G : Nat) : Nat → Nat
  | 0 => 0
  | r + 1 => sumR S G r + shSum S r G
theorem sumR_le (S : List (Int × Int)) (G : Nat) (h : S.length ≤ 8) : ∀ r, sumR S G r ≤ 8 * G * r
  | 0 => by simp [sumR]
  | r + 1 => by
    have h1 := sumR_le S G h r
    have h2 := shSum_le S r h G
    rw [sumR, Nat.mul_add]; omega
set_option maxRecDepth 100000 in
set_option maxHeartbeats 8000000 in
theorem rings_any (A : Option Addr) (cA : Nat) (l : List Int) (s0 : Int) (w : World) (hs : Ints .i64 w w.heap.size A l) (hn : Nums l) (hl : l.length ≤ 9223372036854775807) (a0 : -9223372036854775808 ≤ s0) (a1 : s0 ≤ 9223372036854775807) :
    Calls Try.prog 5 #[.slice A l.length cA, .int .i64 s0] w fun e w' => e = .returned (.bool true) ∧ Below w.heap.size w w' := by
  go_enter Try.func5, Try.ntmps5
  go_wp2_with fail
  refine (new_ok A l cA _ hs hn hl).mono ?_
  rintro e w2 ⟨rfl, hdk, hb2, hlt2⟩
  go_wp2_with fail
  refine (junction_any w.heap.size w2 hdk).mono ?_
  rintro e w3 ⟨hgr, hdk3, q, st, ex, P, A1, B1, c1, d1, rfl, hj, hP, hI, hA1, hB1, hc1, hd1⟩
  have hb3 := hgr.base hb2 (Nat.le_refl _)
  have hP8 : 1 ≤ P.length ∧ P.length ≤ 8 := by have h1 := hj.len; have h2 := shapeL_len q; omega
  obtain ⟨n, hnn⟩ : ∃ n, P.length = n := ⟨_, rfl⟩
  rw [hnn] at hP8 hc1 hd1 ⊢
  have HN := Lib.hid hnn
  clear hnn hgr hdk hdk3 hb2 hA1 hB1
  have bA := lat_alloc (Below.refl w3.heap.size w3) (.cells #[.slice A1 n c1, .slice B1 n d1, .int .i64 st] 25)
  have BJ := Blk.new (w := w3) (t := 25) (cs := #[.slice A1 n c1, .slice B1 n d1, .int .i64 st])
  have hI4 := hI.grow bA
  have hP4 := hP.grow bA
  have hb4 := hb3.trans (bA.mono hb3.size)
  have hwgj := hb3.size
  have j0 := BJ.at 0 rfl
  have j1 := BJ.at 1 rfl
  have j2 := BJ.at 2 rfl
  have h256 : (2 : Nat) ^ n ≤ 256 := Nat.pow_le_pow_right (n := 2) (by decide) hP8.2
  have h1p : 0 < (2 : Nat) ^ n := Nat.two_pow_pos n
  have HW := Lib.hid (show wrap64 ((2 : Int) ^ n) = ((2 ^ n : Nat) : Int) from wrap_pow (by omega))
  go_wp2_with fail
  generalize w3.alloc (.cells #[.slice A1 n c1, .slice B1 n d1, .int .i64 st] 25) = W4 at *
  generalize w3.heap.size = gj at *
  refine (plan_c (jun_t (jun_drawn hj)) W4 HN.out (by rw [rows_len]; exact HN.out) hP4 hI4 hc1).mono ?_
  rintro e W5 ⟨rfl, hb5⟩
  have BJ5 := BJ.below hb5
  have hI5 := hI4.grow hb5
  have hP5 := hP4.grow hb5
  have hb45 := hb4.trans (hb5.mono hb4.size)
  clear BJ hI4 hP4 hb4 hI hP hb3 bA j0 j1 j2 hb5
  have j0 := BJ5.at 0 rfl
  have hw' := HW.out
  have hM0 : 0 < ((2 ^ n : Nat) : Int) ∧ ((2 ^ n : Nat) : Int) ≤ 256 := by omega
  clear HW h256 h1p
  generalize ((2 ^ n : Nat) : Int) = M at *
  have hM : 0 < M ∧ M ≤ 256 := hM0
  obtain ⟨S, hS⟩ : ∃ S, modI s0 M = S := ⟨_, rfl⟩
  have HS := Lib.hid hS
  clear hS hM0
  go_wp2_with fail
  refine (mod_p HS.out hM.1 (by omega) a0 a1 _).mono ?_
  rintro e w' ⟨rfl, rfl⟩
  clear hw'
  go_wp2_with fail
  clear j0
  have hgb := groups_bd (P := P) (fun i hi => by have h1 := (hj.sh i hi).2; have h2 := sh_bd q i; omega) n (by have := HN.out; omega)
  go_loopw [29] (fun v wr => ∃ i : Nat, v = .int .i64 i ∧ i ≤ n ∧ Below W5.heap.size W5 wr) (fun v _ => n - (intOf v).toNat)
  case atStart => exact ⟨0, rfl, by omega, Below.refl _ _⟩
  case round =>
    obtain ⟨i, rfl, hi, hbr⟩ := hrel
    by_cases hlt : i < n
    · have hltZ : (i : Int) < n := by omega
      obtain ⟨b, off, rfl, hbB, hph⟩ := (hP5.grow hbr).at (i := i) (by have := HN.out; omega)
      obtain ⟨x0, x1, x2, x3, x4, x5, x6, x7⟩ := hph
      have B7 := Blk.new (w := wr) (t := 51) (cs := #[.int .i64 (phAt P i).ri, .int .i64 (phAt P i).gr, .int .i64 (phAt P i).mn, .int .i64 (phAt P i).mx, .int .i64 (phAt P i).yl, .int .i64 (phAt P i).rd, .int .i64 (phAt P i).wk, .int .i64 (phAt P i).cl])
      have bX := lat_alloc hbr (.cells #[.int .i64 (phAt P i).ri, .int .i64 (phAt P i).gr, .int .i64 (phAt P i).mn, .int .i64 (phAt P i).mx, .int .i64 (phAt P i).yl, .int .i64 (phAt P i).rd, .int .i64 (phAt P i).wk, .int .i64 (phAt P i).cl] 51)
      have BJr := (BJ5.below hbr).alloc (.cells #[.int .i64 (phAt P i).ri, .int .i64 (phAt P i).gr, .int .i64 (phAt P i).mn, .int .i64 (phAt P i).mx, .int .i64 (phAt P i).yl, .int .i64 (phAt P i).rd, .int .i64 (phAt P i).wk, .int .i64 (phAt P i).cl] 51)
      have j0 := BJr.at 0 rfl
      clear BJr
      go_wp2_with fail
      clear x0 x1 x2 x3 x4 x5 x6 x7 j0
      have hg7 : wr.heap.size < (wr.alloc (.cells #[.int .i64 (phAt P i).ri, .int .i64 (phAt P i).gr, .int .i64 (phAt P i).mn, .int .i64 (phAt P i).mx, .int .i64 (phAt P i).yl, .int .i64 (phAt P i).rd, .int .i64 (phAt P i).wk, .int .i64 (phAt P i).cl] 51)).heap.size := B7.lt
      generalize wr.alloc (.cells #[.int .i64 (phAt P i).ri, .int .i64 (phAt P i).gr, .int .i64 (phAt P i).mn, .int .i64 (phAt P i).mx, .int .i64 (phAt P i).yl, .int .i64 (phAt P i).rd, .int .i64 (phAt P i).wk, .int .i64 (phAt P i).cl] 51) = W7 at *
      generalize wr.heap.size = g7 at *
      go_loopw [37] (fun v wr => ∃ k : Nat, v = .int .i64 k ∧ k ≤ n ∧ Below W7.heap.size W7 wr) (fun v _ => n - (intOf v).toNat)
      case atStart => exact ⟨0, rfl, by omega, Below.refl _ _⟩
      case round =>
        obtain ⟨k, rfl, hk, hbs⟩ := hrel
        by_cases hlk : k < n
        · have hlkZ : (k : Int) < n := by omega
          have hbt := bX.trans (hbs.mono bX.size)
          obtain ⟨b', off', hA', hbB', hph'⟩ := (hP5.grow hbt).at (i := k) (by have := HN.out; omega)
          injection Option.some.inj hA' with hA2 hA3 _
          subst hA2; subst hA3
          clear hA'
          obtain ⟨x0, x1, x2, x3, x4, x5, x6, x7⟩ := hph'
          have hbX := lat_alloc hbs (.cells #[.int .i64 (phAt P k).ri, .int .i64 (phAt P k).gr, .int .i64 (phAt P k).mn, .int .i64 (phAt P k).mx, .int .i64 (phAt P k).yl, .int .i64 (phAt P k).rd, .int .i64 (phAt P k).wk, .int .i64 (phAt P k).cl] 51)
          by_cases hik : i = k
          · have z0 : ((i : Int) != (k : Int)) = false := by simp; omega
            go_wp2
            go_roundw
            case rel => exact ⟨k + 1, by go_num, hlk, hbX⟩
            case measure => simp [intOf]; omega
          have z0 : ((i : Int) != (k : Int)) = true := by simp; omega
          cases hs1 : hasB S i with
          | false =>
            have z1 := bit_any S i
            rw [hs1] at z1
            clear hs1
            go_wp2
            go_roundw
            case rel => exact ⟨k + 1, by go_num, hlk, hbX⟩
            case measure => simp [intOf]; omega
          | true =>
          have z1 := bit_any S i
          rw [hs1] at z1
          clear hs1
          cases hs2 : hasB S k with
          | false =>
            have z2 := bit_any S k
            rw [hs2] at z2
            clear hs2
            go_wp2
            go_roundw
            case rel => exact ⟨k + 1, by go_num, hlk, hbX⟩
            case measure => simp [intOf]; omega
          | true =>
          have z2 := bit_any S k
          rw [hs2] at z2
          clear hs2
          have B9 := Blk.new (w := wr) (t := 51) (cs := #[.int .i64 (phAt P k).ri, .int .i64 (phAt P k).gr, .int .i64 (phAt P k).mn, .int .i64 (phAt P k).mx, .int .i64 (phAt P k).yl, .int .i64 (phAt P k).rd, .int .i64 (phAt P k).wk, .int .i64 (phAt P k).cl])
          have B7s := (B7.below hbs).alloc (.cells #[.int .i64 (phAt P k).ri, .int .i64 (phAt P k).gr, .int .i64 (phAt P k).mn, .int .i64 (phAt P k).mx, .int .i64 (phAt P k).yl, .int .i64 (phAt P k).rd, .int .i64 (phAt P k).wk, .int .i64 (phAt P k).cl] 51)
          have m0 := B7s.at 0 rfl
          have m1 := B7s.at 1 rfl
          have n0 := B9.at 0 rfl
          have n1 := B9.at 1 rfl
          clear B7s B9
          have BJs := (BJ5.below hbt).alloc (.cells #[.int .i64 (phAt P k).ri, .int .i64 (phAt P k).gr, .int .i64 (phAt P k).mn, .int .i64 (phAt P k).mx, .int .i64 (phAt P k).yl, .int .i64 (phAt P k).rd, .int .i64 (phAt P k).wk, .int .i64 (phAt P k).cl] 51)
          have j1 := BJs.at 1 rfl
          clear BJs
          obtain ⟨bc, offc, rfl, hbBc, hcc⟩ := ((hI5.grow hbt).grow (lat_alloc (Below.refl _ _) (.cells #[.int .i64 (phAt P k).ri, .int .i64 (phAt P k).gr, .int .i64 (phAt P k).mn, .int .i64 (phAt P k).mx, .int .i64 (phAt P k).yl, .int .i64 (phAt P k).rd, .int .i64 (phAt P k).wk, .int .i64 (phAt P k).cl] 51))) (by rw [rows_len]; have := HN.out; omega)
          have hci := hcc i (by rw [rows_len]; have := HN.out; omega)
          have hiC : (i : Int) < (n : Int) := hltZ
          have HND := Lib.hid (show needB P i k = (decide ((phAt P i).ri = (phAt P k).ri) || !decide ((phAt P i).gr = (phAt P k).gr)) from rfl)
          have HBZ := Lib.hid (show needB P i k = true → (bits .and .i64 (at_ (rowsL P ex) i / 2 ^ k) 1 == 0) = false from fun h => bit_zero _ _ (by rw [rows_bit P ex (by have := HN.out; omega) (by have := HN.out; omega)]; exact conf_need hik h))
          clear hcc
          generalize phAt P i = x at *
          generalize phAt P k = y at *
          generalize at_ (rowsL P ex) i = xi at *
          by_cases h1 : x.ri = y.ri
          · have z3 : (x.ri == y.ri) = true := by simpa using h1
            have z4 := HBZ.out (by rw [HND.out, decide_eq_true h1, Bool.true_or])
            clear h1
            go_wp2
            go_roundw
            case rel => exact ⟨k + 1, by go_num, hlk, hbX⟩
            case measure => simp [intOf]; omega
          · have z3 : (x.ri == y.ri) = false := by simpa using h1
            by_cases h2 : x.gr = y.gr
            · have z4 : (x.gr != y.gr) = false := by simpa using h2
              clear h1 h2
              go_wp2
              go_roundw
              case rel => exact ⟨k + 1, by go_num, hlk, hbX⟩
              case measure => simp [intOf]; omega
            · have z4 : (x.gr != y.gr) = true := by simpa using h2
              have z5 := HBZ.out (by rw [HND.out, decide_eq_false h1, decide_eq_false h2]; rfl)
              clear h1 h2
              go_wp2
              go_roundw
              case rel => exact ⟨k + 1, by go_num, hlk, hbX⟩
              case measure => simp [intOf]; omega
        · have hlkZ : ¬ (k : Int) < n := by omega
          go_wp2
          go_roundw
          case rel => exact ⟨i + 1, by go_num, by omega, bX.trans (hbs.mono bX.size)⟩
          case measure => simp [intOf]; omega
    · have hltZ : ¬ (i : Int) < n := by omega
      obtain ⟨G, hG⟩ := Int.eq_ofNat_of_zero_le hgb.1
      have hG4 : G ≤ 4 := by omega
      have hSn : (shapeL q).length = n := by have := hj.len; have := HN.out; omega
      have hof : ∀ r g : Int, (ofL P r g n).length = shOf (shapeL q) r g (shapeL q).length := fun r g => by rw [hSn]; exact of_sh hj r g n (by have := HN.out; omega)
      have hfin : sumR (shapeL q) G 2 = n := by
        have h1 := sh_sum q
        rw [← groups_sh hj _ (by have := hj.len; omega), hSn, hG, Int.toNat_natCast] at h1
        simp only [sumR]
        have e0 : ((0 : Nat) : Int) = 0 := rfl
        have e1 : ((1 : Nat) : Int) = 1 := rfl
        rw [e0, e1]; omega
      have HOF := Lib.hid hof
      have HFI := Lib.hid hfin
      have HG := Lib.hid hG
      have HSN := Lib.hid hSn
      have hle := fun r => sumR_le (shapeL q) G (by rw [hSn]; omega) r
      have hls := fun (r : Int) k => shSum_le (shapeL q) r (by rw [hSn]; omega) k
      have HLE := Lib.hid hle
      have HLS := Lib.hid hls
      clear hof hfin hG hSn hgb hle hls
      go_wp2_with fail
      go_loopw [10, 89] (fun t v ws => ∃ r : Nat, r ≤ 2 ∧ t = .int .i64 (sumR (shapeL q) G r) ∧ v = .int .i64 r ∧ Below W5.heap.size W5 ws) (fun _ v _ => 2 - (intOf v).toNat)
      case atStart => exact ⟨0, by omega, rfl, rfl, hbr⟩
      case round =>
        obtain ⟨r, hr, rfl, rfl, hbs⟩ := hrel
        have BJs := BJ5.below hbs
        have j0 := BJs.at 0 rfl
        have j1 := BJs.at 1 rfl
        have j2 := BJs.at 2 rfl
        clear BJs
        by_cases hlr : r < 2
        · have hlrZ : (r : Int) < 2 := by omega
          go_wp2_with fail
          refine (groups_n A1 B1 c1 d1 n n P st _ HN.out (hP5.grow hbs) (by omega) (fun i hi => by have h1 := (hj.sh i (by have := HN.out; omega)).2; have h2 := sh_bd q i; omega)).mono ?_
          rintro e W8 ⟨rfl, hb8⟩
          rw [HG.out]
          have hb58 := hbs.trans (hb8.mono hbs.size)
          clear j0 j1 j2
          go_wp2_with fail
          go_loopw [10, 94] (fun t v wt => ∃ g : Nat, g ≤ G ∧ t = .int .i64 ((sumR (shapeL q) G r + shSum (shapeL q) r g : Nat) : Int) ∧ v = .int .i64 g ∧ Below W5.heap.size W5 wt) (fun _ v _ => G - (intOf v).toNat)
          case atStart => exact ⟨0, by omega, rfl, rfl, hb58⟩
          case round =>
            obtain ⟨g, hg, rfl, rfl, hbt⟩ := hrel
            by_cases hlg : g < G
            · have hlgZ : (g : Int) < G := by omega
              have BJs := BJ5.below hbt
              have j0 := BJs.at 0 rfl
              have j1 := BJs.at 1 rfl
              have j2 := BJs.at 2 rfl
              clear BJs
              go_wp2_with fail
              refine (of_n A1 B1 c1 d1 n n P st r g _ HN.out (hP5.grow hbt) (by omega)).mono ?_
              rintro e W9 ⟨A', c', rfl, hb9, hI9⟩
              have hb59 := hbt.trans (hb9.mono hbt.size)
              clear j0 j1 j2 hI9
              rw [HOF.out]
              have hss := Lib.hid (show shSum (shapeL q) r (g + 1) = shSum (shapeL q) r g + shOf (shapeL q) r g (shapeL q).length by rw [shSum])
              have hb1 := HLE.out r
              have hb2 := HLS.out r g
              have hb3 := shOf_le (shapeL q) r g (shapeL q).length
              rw [HSN.out] at hb3 hss ⊢
              have hgr2 : 8 * G * r ≤ 64 := by
                have : 8 * G * r ≤ 32 * 2 := Nat.mul_le_mul (by omega) hr
                omega
              generalize shOf (shapeL q) r g n = o at *
              generalize hsg : sumR (shapeL q) G r + shSum (shapeL q) r g = u at *
              have HSG := Lib.hid hsg
              clear hsg
              have hu : u ≤ 200 := by have := HSG.out; omega
              clear hb1 hb2 hgr2
              go_wp2
              go_roundw
              case rel => exact ⟨g + 1, hlg, by rw [hss.out]; have := HSG.out; rw [show sumR (shapeL q) G r + (shSum (shapeL q) r g + o) = u + o by omega]; go_num, by go_num, hb59⟩
              case measure => simp [intOf]; omega
            · have hlgZ : ¬ (g : Int) < G := by omega
              obtain rfl : g = G := by omega
              go_wp2
              go_roundw
              case rel => exact ⟨r + 1, hlr, rfl, by go_num, hbt⟩
              case measure => simp [intOf]; omega
        · have hlrZ : ¬ (r : Int) < 2 := by omega
          obtain rfl : r = 2 := by omega
          rw [HFI.out]
          go_wp2_with fail
          refine (awake_any _).mono ?_
          rintro e W9 ⟨rfl, hb9⟩
          clear j0 j1 j2
          go_wp2
          go_ret
          exact ⟨rfl, hb45.trans ((hbs.trans (hb9.mono hbs.size)).mono hb45.size)⟩
end Go.Proofs.Ytngdaieopnadbaa
