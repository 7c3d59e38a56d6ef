/-
  The law VehicleOrder answers true: its walk. Conditions: none.
-/
import Derived.Test.YtgafianhlobcfaaFi
import Derived.Test.YtgafianhlobcfaaVo
namespace Go.Proofs.Ytgafianhlobcfaa
open Go.ChangeShapes Go.WideShapes Go.RowKit
set_option linter.unusedVariables false

/-- The numbers of the first k of a row. -/
def Sx (q : Nat → Int) (k : Nat) (r : Int) : Prop := ∃ j, j < k ∧ q j = r
theorem sx_next (q : Nat → Int) (k : Nat) (r : Int) : Sx q (k + 1) r ↔ Sx q k r ∨ r = q k := by
  constructor
  · rintro ⟨j, hj, e⟩
    by_cases h : j = k
    · subst h; exact .inr e.symm
    · exact .inl ⟨j, by omega, e⟩
  · rintro (⟨j, hj, e⟩ | e)
    · exact ⟨j, by omega, e⟩
    · exact ⟨k, by omega, e.symm⟩
theorem sx_rot (q : Nat → Int) (n t : Nat) (r : Int) : Sx q n r ↔ Sx (fun j => q ((j + t) % n)) n r := by
  by_cases h0 : n = 0
  · subst h0
    constructor <;> (rintro ⟨j, hj, _⟩; omega)
  · constructor
    · rintro ⟨j, hj, e⟩
      refine ⟨(j + (n - t % n)) % n, Nat.mod_lt _ (by omega), ?_⟩
      have hm : (((j + (n - t % n)) % n) + t) % n = j := by
        have ht := Nat.mod_lt t (show 0 < n by omega)
        rw [Nat.mod_add_mod]
        have h1 : j + (n - t % n) + t = j + n + (t - t % n) := by have := Nat.mod_le t n; omega
        have h2 : t - t % n = n * (t / n) := by have := Nat.div_add_mod t n; omega
        rw [h1, h2, Nat.add_mul_mod_self_left, Nat.add_mod_right, Nat.mod_eq_of_lt hj]
      show q _ = r
      rw [hm]; exact e
    · rintro ⟨j, hj, e⟩
      exact ⟨(j + t) % n, Nat.mod_lt _ (by omega), e⟩
theorem mod_c (a m : Int) (h0 : 0 < m) (h1 : m ≤ 4294967296) (ha : -9223372036854775808 ≤ a) (hb : a ≤ 9223372036854775807) (w : World) {x : Int} (hx : modI a m = x) : Calls Try.prog 10 #[.int .i64 a, .int .i64 m] w fun e w' => e = .returned (.int .i64 x) ∧ w = w' := by
  rw [← hx]; exact mod_any a m h0 h1 ha hb w
set_option maxRecDepth 20000 in
set_option maxHeartbeats 4000000 in
theorem orderlaw_any (D : Option Addr) (d : Nat) (l : List Int) (turn id0 : Int) (w : World) (hs : Ints .i64 w w.heap.size D l) (hn : Nums l) (hl : l.length ≤ 9223372036854775807) (t0 : -9223372036854775808 ≤ turn) (t1 : turn ≤ 9223372036854775807) (i0 : -9223372036854775808 ≤ id0) (i1 : id0 ≤ 9223372036854775807) :
    Calls Try.prog 4 #[.slice D l.length d, .int .i64 turn, .int .i64 id0] w fun e w' => e = .returned (.bool true) ∧ Below w.heap.size w w' := by
  by_cases hfew : l.length > 20
  · have zf : decide ((l.length : Int) > 20) = true := by simp; omega
    go_enter Try.func4, Try.ntmps4
    go_wp2_with fail
    refine (awake_any w).mono ?_
    rintro e w4 ⟨rfl, hw4⟩
    go_wp2
    go_ret
    exact ⟨rfl, hw4⟩
  · have zf : decide ((l.length : Int) > 20) = false := by simp; omega
    have hl20 : l.length ≤ 20 := by omega
    clear hfew hl
    have I0 := ints4 (w := w) (a := 8) (b := 8) (c := 8) (d := 8)
    have bX := lat_alloc (lat_alloc (Below.refl w.heap.size w) (.cells #[.int .i64 8, .int .i64 8, .int .i64 8, .int .i64 8] 3)) (.cells #[.slice none 0 0, .int .i64 0, .int .i64 3, .slice (some ⟨w.heap.size, 0, none⟩) 4 4, .int .i64 0, .int .i64 0, .int .i64 0, .int .i64 0] 29)
    have I1 := I0.grow (lat_alloc (Below.refl _ _) (.cells #[.slice none 0 0, .int .i64 0, .int .i64 3, .slice (some ⟨w.heap.size, 0, none⟩) 4 4, .int .i64 0, .int .i64 0, .int .i64 0, .int .i64 0] 29))
    have B := Blk.new (w := w.alloc (.cells #[.int .i64 8, .int .i64 8, .int .i64 8, .int .i64 8] 3)) (t := 29) (cs := #[.slice none 0 0, .int .i64 0, .int .i64 3, .slice (some ⟨w.heap.size, 0, none⟩) 4 4, .int .i64 0, .int .i64 0, .int .i64 0, .int .i64 0])
    rw [heap_size] at B
    have hsX := hs.grow bX
    go_enter Try.func4, Try.ntmps4
    go_wp2_with fail
    clear zf I0
    generalize (w.alloc (.cells #[.int .i64 8, .int .i64 8, .int .i64 8, .int .i64 8] 3)).alloc (.cells #[.slice none 0 0, .int .i64 0, .int .i64 3, .slice (some ⟨w.heap.size, 0, none⟩) 4 4, .int .i64 0, .int .i64 0, .int .i64 0, .int .i64 0] 29) = W at *
    generalize w.heap.size + 1 = gA at *
    obtain ⟨T, hT⟩ : ∃ T : Nat, 0 < l.length → modI turn l.length = T := by
      by_cases h0 : 0 < l.length
      · obtain ⟨T, hT⟩ := Int.eq_ofNat_of_zero_le (modI_bd turn l.length (by omega)).1
        exact ⟨T, fun _ => hT⟩
      · exact ⟨0, fun h => absurd h h0⟩
    have HT := Lib.hid hT
    clear hT
    go_loopw [8, 9, 32] (fun v u i wr => ∃ (V V' : List Ve) (A A' : Option Addr) (c c' k : Nat), k ≤ l.length ∧ v = .slice A V.length c ∧ u = .slice A' V'.length c' ∧ i = .int .i64 k ∧ Vs wr wr.heap.size A V ∧ Vs wr wr.heap.size A' V' ∧ V.length ≤ c ∧ V'.length ≤ c' ∧ c ≤ 9223372036854775807 ∧ c' ≤ 9223372036854775807 ∧ Below W.heap.size W wr ∧ Hid (Cano (Sx (fun j => modI (at_ l j) 8) k) V) ∧ Hid (Cano (Sx (fun j => modI (at_ l ((j + T) % l.length)) 8) k) V')) (fun _ _ i _ => l.length - (intOf i).toNat)
    case atStart => exact ⟨[], [], none, none, 0, 0, 0, by omega, rfl, rfl, rfl, Vs.nil, Vs.nil, by simp, by simp, by omega, by omega, Below.refl _ _, Lib.hid (Cano.nil.set (fun r => ⟨fun h => h.elim, fun ⟨j, hj, _⟩ => by omega⟩)), Lib.hid (Cano.nil.set (fun r => ⟨fun h => h.elim, fun ⟨j, hj, _⟩ => by omega⟩))⟩
    case round =>
      obtain ⟨V, V', A, A', c, c', k, hk, rfl, rfl, rfl, hs2, hs2', hlc, hlc', hcm, hcm', hbr, HC1, HC2⟩ := hrel
      have hl8 := HC1.out.len
      have hl8' := HC2.out.len
      have BA := B.below hbr
      have IA := I1.grow hbr
      have hsr := hsX.grow hbr
      by_cases hlt : k < l.length
      · have hlt' : (k : Int) < l.length := by omega
        obtain ⟨b, off, rfl, hB, hc⟩ := hsr.sub hlt
        have hmlt : (k + T) % l.length < l.length := Nat.mod_lt _ (by omega)
        obtain ⟨b', off', hbe, hB', hc'⟩ := hsr.sub hmlt
        simp only [Option.some.injEq, Addr.mk.injEq] at hbe
        obtain ⟨rfl, rfl, _⟩ := hbe
        have n1 := hn _ (at_mem hlt)
        have n2 := hn _ (at_mem hmlt)
        have hTT := HT.out (by omega)
        have hTb := modI_bd turn l.length (by omega)
        rw [hTT] at hTb
        have HMT := Lib.hid (fun w => mod_any turn l.length (by omega) (by omega) t0 t1 w)
        rw [hTT] at HMT
        clear hTT
        have hr0 : 0 ≤ ((k : Int) + (T : Int)) % (l.length : Int) := Int.emod_nonneg _ (by omega)
        have hr1 : ((k : Int) + (T : Int)) % (l.length : Int) < (l.length : Int) := Int.emod_lt_of_pos _ (by omega)
        have hp1 := modI_bd (at_ l k) 8 (by omega)
        have hp2 := modI_bd (at_ l ((k + T) % l.length)) 8 (by omega)
        obtain ⟨p1, hP1⟩ : ∃ p, modI (at_ l k) 8 = p := ⟨_, rfl⟩
        obtain ⟨p2, hP2⟩ : ∃ p, modI (at_ l ((k + T) % l.length)) 8 = p := ⟨_, rfl⟩
        rw [hP1] at hp1
        rw [hP2] at hp2
        have HP1 := Lib.hid hP1
        have HP2 := Lib.hid hP2
        clear hP1 hP2
        go_wp2_with fail
        refine (mod_c (at_ l k) 8 (by omega) (by omega) (by omega) (by omega) _ HP1.out).mono ?_; rintro e w' ⟨rfl, hw'⟩; subst hw'
        go_wp2_with fail
        refine (HMT.out _).mono ?_; rintro e w' ⟨rfl, hw'⟩; subst hw'
        go_wp2_with fail
        refine (mod_c (at_ l ((k + T) % l.length)) 8 (by omega) (by omega) (by omega) (by omega) _ HP2.out).mono ?_; rintro e w' ⟨rfl, hw'⟩; subst hw'
        clear HMT hr0 hr1 hc hc' hB hB' hTb
        have o0 := BA.at 0 rfl
        have o1 := BA.at 1 rfl
        have o2 := BA.at 2 rfl
        have o3 := BA.at 3 rfl
        have o4 := BA.at 4 rfl
        have o5 := BA.at 5 rfl
        have o6 := BA.at 6 rfl
        have o7 := BA.at 7 rfl
        go_wp2_with fail
        refine (register_n A c V ⟨p1, p1 % 4⟩ _ _ _ _ _ _ 3 _ _ 4 [8, 8, 8, 8] rfl wr hs2 (veW_valid (Int.le_refl 0) HC1.out.valid) (by omega) hlc hcm IA (by simp) (by simp) (And.intro (show (-9223372036854775808 : Int) ≤ p1 by omega) (show p1 ≤ (9223372036854775807 : Int) by omega)) (And.intro (show (-9223372036854775808 : Int) ≤ p1 % 4 by omega) (show p1 % 4 ≤ (9223372036854775807 : Int) by omega))).mono ?_
        rintro e w8 ⟨s8, rfl, hb8, h81, h82⟩
        clear o0 o1 o2 o3 o4 o5 o6 o7
        have hby := hbr.trans (hb8.mono hbr.size)
        rcases HC1.out.reg hp1 with ⟨hE1, hC1⟩ | ⟨hE1, hC1⟩
        · obtain ⟨g8, rfl, hg8, hB8⟩ := h81 hE1
          rw [hE1]
          have hs8 := blk_vs hB8
          clear h81 h82 hE1
          have hsy := hs2'.grow (hb8)
          have BA := (BA.below hb8)
          have IA := (IA.grow hb8)
          have o0 := BA.at 0 rfl
          have o1 := BA.at 1 rfl
          have o2 := BA.at 2 rfl
          have o3 := BA.at 3 rfl
          have o4 := BA.at 4 rfl
          have o5 := BA.at 5 rfl
          have o6 := BA.at 6 rfl
          have o7 := BA.at 7 rfl
          go_wp2_with fail
          refine (register_n A' c' V' ⟨p2, p2 % 4⟩ _ _ _ _ _ _ 3 _ _ 4 [8, 8, 8, 8] rfl w8 hsy (veW_valid (Int.le_refl 0) HC2.out.valid) (by omega) hlc' hcm' IA (by simp) (by simp) (And.intro (show (-9223372036854775808 : Int) ≤ p2 by omega) (show p2 ≤ (9223372036854775807 : Int) by omega)) (And.intro (show (-9223372036854775808 : Int) ≤ p2 % 4 by omega) (show p2 % 4 ≤ (9223372036854775807 : Int) by omega))).mono ?_
          rintro e w9 ⟨s9, rfl, hb9, h91, h92⟩
          clear o0 o1 o2 o3 o4 o5 o6 o7
          have hbz := (hby).trans (hb9.mono (hby).size)
          rcases HC2.out.reg hp2 with ⟨hE2, hC2⟩ | ⟨hE2, hC2⟩
          · obtain ⟨g9, rfl, hg9, hB9⟩ := h91 hE2
            rw [hE2]
            have hs9 := blk_vs hB9
            clear h91 h92 hE2
            go_wp2
            go_roundw
            case rel => exact ⟨insV ⟨p1, p1 % 4⟩ V, insV ⟨p2, p2 % 4⟩ V', some ⟨g8, 0, none⟩, some ⟨g9, 0, none⟩, V.length + 1, V'.length + 1, k + 1, by omega, by rw [insV_len], by rw [insV_len], by go_num, (hs8).grow hb9, hs9, by rw [insV_len]; omega, by rw [insV_len]; omega, by omega, by omega, hbz, Lib.hid (hC1.set (fun r => by rw [← HP1.out]; exact (sx_next _ _ r).symm)), Lib.hid (hC2.set (fun r => by rw [← HP2.out]; exact (sx_next _ _ r).symm))⟩
            case measure => simp [intOf]; omega
          · have hn9 := h92 (by rw [hE2]; omega)
            subst hn9
            rw [hE2]
            clear h91 h92 hE2
            go_wp2
            go_roundw
            case rel => exact ⟨insV ⟨p1, p1 % 4⟩ V, V', some ⟨g8, 0, none⟩, A', V.length + 1, c', k + 1, by omega, by rw [insV_len], rfl, by go_num, (hs8).grow hb9, hsy.grow hb9, by rw [insV_len]; omega, hlc', by omega, hcm', hbz, Lib.hid (hC1.set (fun r => by rw [← HP1.out]; exact (sx_next _ _ r).symm)), Lib.hid (hC2.set (fun r => by rw [← HP2.out]; exact (sx_next _ _ r).symm))⟩
            case measure => simp [intOf]; omega
        · have hn8 := h82 (by rw [hE1]; omega)
          subst hn8
          rw [hE1]
          clear h81 h82 hE1
          have hsy := hs2'.grow (hb8)
          have BA := (BA.below hb8)
          have IA := (IA.grow hb8)
          have o0 := BA.at 0 rfl
          have o1 := BA.at 1 rfl
          have o2 := BA.at 2 rfl
          have o3 := BA.at 3 rfl
          have o4 := BA.at 4 rfl
          have o5 := BA.at 5 rfl
          have o6 := BA.at 6 rfl
          have o7 := BA.at 7 rfl
          go_wp2_with fail
          refine (register_n A' c' V' ⟨p2, p2 % 4⟩ _ _ _ _ _ _ 3 _ _ 4 [8, 8, 8, 8] rfl w8 hsy (veW_valid (Int.le_refl 0) HC2.out.valid) (by omega) hlc' hcm' IA (by simp) (by simp) (And.intro (show (-9223372036854775808 : Int) ≤ p2 by omega) (show p2 ≤ (9223372036854775807 : Int) by omega)) (And.intro (show (-9223372036854775808 : Int) ≤ p2 % 4 by omega) (show p2 % 4 ≤ (9223372036854775807 : Int) by omega))).mono ?_
          rintro e w9 ⟨s9, rfl, hb9, h91, h92⟩
          clear o0 o1 o2 o3 o4 o5 o6 o7
          have hbz := (hby).trans (hb9.mono (hby).size)
          rcases HC2.out.reg hp2 with ⟨hE2, hC2⟩ | ⟨hE2, hC2⟩
          · obtain ⟨g9, rfl, hg9, hB9⟩ := h91 hE2
            rw [hE2]
            have hs9 := blk_vs hB9
            clear h91 h92 hE2
            go_wp2
            go_roundw
            case rel => exact ⟨V, insV ⟨p2, p2 % 4⟩ V', A, some ⟨g9, 0, none⟩, c, V'.length + 1, k + 1, by omega, rfl, by rw [insV_len], by go_num, (hs2.grow hb8).grow hb9, hs9, hlc, by rw [insV_len]; omega, hcm, by omega, hbz, Lib.hid (hC1.set (fun r => by rw [← HP1.out]; exact (sx_next _ _ r).symm)), Lib.hid (hC2.set (fun r => by rw [← HP2.out]; exact (sx_next _ _ r).symm))⟩
            case measure => simp [intOf]; omega
          · have hn9 := h92 (by rw [hE2]; omega)
            subst hn9
            rw [hE2]
            clear h91 h92 hE2
            go_wp2
            go_roundw
            case rel => exact ⟨V, V', A, A', c, c', k + 1, by omega, rfl, rfl, by go_num, (hs2.grow hb8).grow hb9, hsy.grow hb9, hlc, hlc', hcm, hcm', hbz, Lib.hid (hC1.set (fun r => by rw [← HP1.out]; exact (sx_next _ _ r).symm)), Lib.hid (hC2.set (fun r => by rw [← HP2.out]; exact (sx_next _ _ r).symm))⟩
            case measure => simp [intOf]; omega
      · have hkn : k = l.length := by omega
        have hVV : V = V' := HC1.out.ext (HC2.out.set (fun r => by rw [hkn]; exact (sx_rot (fun j => modI (at_ l j) 8) l.length T r).symm))
        have HC := HC1
        clear HC1 HC2 hkn
        subst hVV
        have hwz := bX.trans (hbr.mono bX.size)
        go_wp2_with fail
        refine (same_any A A' c c' V wr hs2 hs2' (by omega)).mono ?_
        rintro e w3 ⟨rfl, hb3⟩
        go_wp2_with fail
        have hs3 := hs2.grow hb3
        refine (valid_c A c V w3 hs3 (veW_valid (Int.le_refl 0) HC.out.valid) (by omega) HC.out.b).mono ?_
        rintro e w4 ⟨rfl, hb4⟩
        have hs4 := hs3.grow hb4
        have BA4 := (BA.below hb3).below hb4
        have IA4 := (IA.grow hb3).grow hb4
        have hwz := hwz.trans ((hb3.trans (hb4.mono hb3.size)).mono hwz.size)
        go_wp2_with fail
        refine (mod_any id0 100 (by omega) (by omega) i0 i1 _).mono ?_; rintro e w' ⟨rfl, hw'⟩; subst hw'
        have hid := modI_bd id0 100 (by omega)
        generalize modI id0 100 = b0 at *
        have bV := lat_alloc (Below.refl w4.heap.size w4) (.cells #[.int .i64 (8 + b0), .int .i64 1] 25)
        have BV := Blk.new (w := w4) (t := 25) (cs := #[.int .i64 (8 + b0), .int .i64 1])
        have BA5 := BA4.below bV
        have hs5 := hs4.grow bV
        have IA5 := IA4.grow bV
        have hwz := hwz.trans (bV.mono hwz.size)
        have o0 := BA5.at 0 rfl
        have o1 := BA5.at 1 rfl
        have o2 := BA5.at 2 rfl
        have o3 := BA5.at 3 rfl
        have o4 := BA5.at 4 rfl
        have o5 := BA5.at 5 rfl
        have o6 := BA5.at 6 rfl
        have o7 := BA5.at 7 rfl
        go_wp2_with fail
        clear o0 o1 o2 o3 o4 o5 o6 o7
        generalize w4.alloc (.cells #[.int .i64 (8 + b0), .int .i64 1] 25) = w5 at *
        generalize hgv : w4.heap.size = gV at BV ⊢
        clear hgv
        refine (register_n A c V ⟨8 + b0, 1⟩ _ _ _ _ _ _ 3 _ _ 4 [8, 8, 8, 8] rfl w5 hs5 (veW_valid (Int.le_refl 0) HC.out.valid) (by omega) hlc hcm IA5 (by simp) (by simp) (And.intro (show (-9223372036854775808 : Int) ≤ 8 + b0 by omega) (show 8 + b0 ≤ (9223372036854775807 : Int) by omega)) (And.intro (by show (-9223372036854775808 : Int) ≤ 1; omega) (by show (1 : Int) ≤ 9223372036854775807; omega))).mono ?_
        rintro e w6 ⟨s6, rfl, hb6, h61, h62⟩
        have hwz := hwz.trans (hb6.mono hwz.size)
        have BV6 := BV.below hb6
        have hs6 := hs5.grow hb6
        rcases HC.out.last (a := 8 + b0) (by omega) with ⟨hE, hlen⟩ | ⟨hE, hlen, hin, hvb, hix⟩
        · have hn6 := h62 (by rw [hE]; omega)
          subst hn6
          rw [hE]
          clear h61 h62 hE
          have zlen : ((V.length : Int) == 8) = true := by simp; omega
          clear hlen
          go_wp2_with fail
          refine (awake_any w6).mono ?_
          rintro e w7 ⟨rfl, hb7⟩
          go_wp2
          go_ret
          exact ⟨rfl, hwz.trans (hb7.mono hwz.size)⟩
        · obtain ⟨g6, rfl, hg6, hB6⟩ := h61 hE
          rw [hE]
          rw [hin] at hB6
          have hsU := blk_vs hB6
          clear h61 h62 hE hB6 hin
          have hUl : (V ++ [(⟨8 + b0, 1⟩ : Ve)]).length = V.length + 1 := by simp
          have hRE : remE (V ++ [⟨8 + b0, 1⟩]) (8 + b0) = 0 := by unfold remE; rw [if_neg (by rw [hvb]; decide), hix, if_neg (by omega)]
          have hRV : remV (V ++ [⟨8 + b0, 1⟩]) (8 + b0) = V := by unfold remV; rw [hix]; simp
          have hFV : findV (V ++ [⟨8 + b0, 1⟩]) (8 + b0) = ⟨8 + b0, 1⟩ := by unfold findV; rw [hix, if_neg (by omega)]; simp [veAt]
          have hFD : decide (0 ≤ idxF (8 + b0) (V ++ [⟨8 + b0, 1⟩]) 0) = true := by rw [hix]; simp
          have hUW : VeW (V ++ [⟨8 + b0, 1⟩]) := by
            have h1 := hvb
            unfold validB at h1
            rw [Bool.and_eq_true] at h1
            exact veW_valid (Int.le_refl 0) h1.1
          have HU := Lib.hid hUl
          have H1 := Lib.hid hRE
          have H2 := Lib.hid hRV
          have H3 := Lib.hid hFV
          have H4 := Lib.hid hFD
          clear hUl hRE hRV hFV hFD hvb hix
          generalize hU : V ++ [(⟨8 + b0, 1⟩ : Ve)] = U at *
          clear hU
          have o0 := BV6.at 0 rfl
          have o1 := BV6.at 1 rfl
          go_wp2_with fail
          have hR := remove_any (some ⟨g6, 0, none⟩) (V.length + 1) U (8 + b0) w6 hsU hUW (by rw [HU.out]; omega) (by rw [HU.out]; omega) (by omega)
          rw [HU.out] at hR
          refine hR.mono ?_
          rintro e w7 ⟨s7, rfl, hb7, h71, _⟩
          have h71 := h71 H1.out
          rw [H1.out]
          rw [H2.out, Nat.add_sub_cancel] at h71
          obtain ⟨A7, c7, rfl, hlc7, hcm7, hs7, _⟩ := row_vs rfl h71
          clear hR h71 o0 o1
          have hwz := hwz.trans (hb7.mono hwz.size)
          have BV7 := BV6.below hb7
          have hsU7 := hsU.grow hb7
          have hsx7 := hs6.grow hb7
          have o0 := BV7.at 0 rfl
          have o1 := BV7.at 1 rfl
          go_wp2_with fail
          have hF := find_any (some ⟨g6, 0, none⟩) (V.length + 1) U (8 + b0) w7 hsU7 (by rw [HU.out]; omega)
          rw [HU.out, H3.out, H4.out] at hF
          refine hF.mono ?_
          rintro e w8 ⟨rfl, hb8⟩
          clear hF o0 o1
          have hwz := hwz.trans (hb8.mono hwz.size)
          have BV8 := BV7.below hb8
          have hs8 := hs7.grow hb8
          have hsx8 := hsx7.grow hb8
          have bF := lat_alloc (Below.refl w8.heap.size w8) (.cells #[.int .i64 (8 + b0), .int .i64 1] 25)
          have BF := Blk.new (w := w8) (t := 25) (cs := #[.int .i64 (8 + b0), .int .i64 1])
          have BV9 := BV8.below bF
          have hs9 := hs8.grow bF
          have hsx9 := hsx8.grow bF
          have hwz := hwz.trans (bF.mono hwz.size)
          go_wp2_with fail
          generalize w8.alloc (.cells #[.int .i64 (8 + b0), .int .i64 1] 25) = w9 at *
          generalize hgf : w8.heap.size = gF at BF ⊢
          clear hgf
          refine (same_any A7 A c7 c V w9 hs9 hsx9 (by omega)).mono ?_
          rintro e w10 ⟨rfl, hb10⟩
          have hwz := hwz.trans (hb10.mono hwz.size)
          have BVx := BV9.below hb10
          have BFx := BF.below hb10
          have o0 := BVx.at 0 rfl
          have o1 := BVx.at 1 rfl
          have p0 := BFx.at 0 rfl
          have p1 := BFx.at 1 rfl
          go_wp2_with fail
          refine (awake_any w10).mono ?_
          rintro e w11 ⟨rfl, hb11⟩
          clear o0 o1 p0 p1
          go_wp2
          go_ret
          exact ⟨rfl, hwz.trans (hb11.mono hwz.size)⟩
end Go.Proofs.Ytgafianhlobcfaa
