/-
  The law FrameEncodes answers true: its walk. Conditions: none.
-/
import Derived.Test.YtahemaondkjpiaaAw
import Derived.Test.YtahemaondkjpiaaRe
import Derived.Test.YtahemaondkjpiaaQ
namespace Go.Proofs.Ytahemaondkjpiaa
open Go.ChangeShapes Go.WideShapes Go.RowKit
set_option linter.unusedVariables false

theorem mod_n (a : Int) (m : Nat) (h : 0 < m) : ∃ i : Nat, modI a m = i ∧ i < m := by
  have := modI_bd a m (by omega)
  exact ⟨(modI a m).toNat, by omega, by omega⟩
theorem mod_s {a : Int} {m : Int} {i : Nat} (hi : modI a m = i) (h0 : 0 < m) (h1 : m ≤ 4294967296) (ha : -9223372036854775808 ≤ a) (hb : a ≤ 9223372036854775807) (w : World) : Calls Try.prog 10 #[.int .i64 a, .int .i64 m] w fun e w' => e = .returned (.int .i64 i) ∧ w' = w := by
  have := mod_q a m h0 h1 ha hb w
  rw [hi] at this
  exact this
theorem str_of {w : World} {A : Option Addr} {cap B n : Nat} {l : List Int} (hn : l.length = n) (hi : Ints .u8 w B A l) (hb : Byte l) : (convert 22 9 (.slice A n cap)).run Try.prog w = .ok (.string (strOf l)) w := by
  subst hn
  exact run_str w _ _ 5 A cap B l Try.underlying22 Try.underlying5 Try.underlying9 hi hb
set_option maxHeartbeats 1000000 in
theorem encodes_any (kind : Int) (A : Option Addr) (c : Nat) (p : List Int) (n : Int) (w : World) (k0 : -9223372036854775808 ≤ kind) (k1 : kind ≤ 9223372036854775807) (hs : Ints .u8 w w.heap.size A p) (hby : Byte p) (hl : p.length ≤ 9223372036854775807) (n0 : -9223372036854775808 ≤ n) (n1 : n ≤ 9223372036854775807) :
    Calls Try.prog 3 #[.int .i64 kind, .slice A p.length c, .int .i64 n] w fun e w' => e = .returned (.bool true) ∧ Below w.heap.size w w' := by
  obtain ⟨i3, hi3, hi3'⟩ := mod_n n 3 (by omega)
  obtain ⟨i260, hi260, hi260'⟩ := mod_n kind 260 (by omega)
  obtain ⟨i204, hi204, hi204'⟩ := mod_n n 204 (by omega)
  go_enter Try.func3, Try.ntmps3
  by_cases h6 : p.length ≤ 600
  · have d6 : decide (p.length ≤ 600) = true := by simpa using h6
    go_wp2_with fail
    refine (short_any _ _ _ _ hl).mono ?_; rw [d6]; rintro e w' ⟨rfl, hw'⟩; subst hw'
    go_wp2_with fail
    refine (mod_s hi3 (by omega) (by omega) n0 n1 _).mono ?_; rintro e w' ⟨rfl, hw'⟩; subst hw'
    have R0 : RowB (w'.alloc (.cells (madeCells #[.int .u8 0] (199 + i3)) 5)) w'.heap.size (List.replicate (199 + i3) 0) := by
      have := Blk.new (w := w') (t := 5) (cs := madeCells #[.int .u8 0] (199 + i3))
      unfold RowB
      rw [← made_zeros8]
      exact this
    have b0 := lat_alloc (Below.refl w'.heap.size w') (.cells (madeCells #[.int .u8 0] (199 + i3)) 5)
    generalize hw0 : w'.alloc (.cells (madeCells #[.int .u8 0] (199 + i3)) 5) = W0 at R0 b0
    have HW0 := Lib.hid hw0
    clear hw0
    go_wp2_with (first
      | (obtain ⟨ii, hi0, hi1, hi2, hi3⟩ := info_parts byte_info; refine wpList_make_row _ rfl _ _ 22 rfl 5 ii (.int .u8 0) Try.underlying22 hi0 hi1 hi2 rfl .i64 .i64 (199 + i3) (congrArg (Value.int IntKind.i64) (show (199 : Int) + i3 = ((199 + i3 : Nat) : Int) by omega)) (congrArg (Value.int IntKind.i64) (show (199 : Int) + i3 = ((199 + i3 : Nat) : Int) by omega)) (by rw [hi3]; omega) (by omega) ?_))
    rw [HW0.out]
    refine (mod_s hi260 (by omega) (by omega) k0 k1 _).mono ?_; rintro e w1 ⟨rfl, hw'⟩; subst hw'
    go_wp2_with fail
    have GK := Blk.new (w := w1) (t := 3) (cs := #[.int .i64 kind, .int .i64 ((i260 : Int) - 2)])
    have bK := lat_alloc (Below.refl w1.heap.size w1) (.cells #[.int .i64 kind, .int .i64 ((i260 : Int) - 2)] 3)
    have RL := R0.below bK
    have b1 := b0.trans (bK.mono b0.size)
    have hP1 := hs.below b1
    generalize w1.alloc (.cells #[.int .i64 kind, .int .i64 ((i260 : Int) - 2)] 3) = W1 at *
    generalize w1.heap.size = g28 at *
    have hlg := RL.lt
    clear R0 b0 HW0 bK
    go_loopw [30] (fun v Wr => ∃ r : Nat, r ≤ 2 ∧ v = .int .i64 r ∧ Below W1.heap.size W1 Wr) (fun v _ => 2 - (intOf v).toNat)
    case atStart => exact ⟨0, by omega, rfl, Below.refl _ _⟩
    case round =>
      obtain ⟨r, hr, rfl, hbr⟩ := hrel
      by_cases hlt : r < 2
      · obtain ⟨kk, hkk⟩ : ∃ kk : Int, (#[.int .i64 kind, .int .i64 ((i260 : Int) - 2)] : Array Value)[r]? = some (.int .i64 kk) := by
          match r, hlt with
          | 0, _ => exact ⟨_, rfl⟩
          | 1, _ => exact ⟨_, rfl⟩
        have hck := (Blk.cell (GK.below hbr) r).trans hkk
        go_wp2_with fail
        have GS := Blk.new (w := wr) (t := 22) (cs := #[.slice A p.length c, .slice (some ⟨w'.heap.size, 0, none⟩) (199 + i3) (199 + i3)])
        have bS := lat_alloc (Below.refl wr.heap.size wr) (.cells #[.slice A p.length c, .slice (some ⟨w'.heap.size, 0, none⟩) (199 + i3) (199 + i3)] 22)
        have b2 := hbr.trans (bS.mono hbr.size)
        have RL2 := (RL.below hbr).below bS
        have hP2 := (hP1.more b1.size).below b2
        generalize wr.alloc (.cells #[.slice A p.length c, .slice (some ⟨w'.heap.size, 0, none⟩) (199 + i3) (199 + i3)] 22) = W2 at *
        generalize wr.heap.size = g36 at *
        have hP2 := hP2.more b2.size
        clear bS hck hkk
        have hd31 : decide ((r : Int) < 2) = true := by simp; omega
        simp only [hd31]
        go_loopw [38] (fun v Wr => ∃ q : Nat, q ≤ 2 ∧ v = .int .i64 q ∧ Below W2.heap.size W2 Wr) (fun v _ => 2 - (intOf v).toNat)
        case atStart => exact ⟨0, by omega, rfl, Below.refl _ _⟩
        case round =>
          obtain ⟨q, hq, rfl, hbq⟩ := hrel
          by_cases hltq : q < 2
          · obtain ⟨Am, m, cm, hcm, hIm, hBm, hLm⟩ : ∃ (Am : Option Addr) (m : List Int) (cm : Nat), (#[.slice A p.length c, .slice (some ⟨w'.heap.size, 0, none⟩) (199 + i3) (199 + i3)] : Array Value)[q]? = some (.slice Am m.length cm) ∧ Ints .u8 W2 W2.heap.size Am m ∧ Byte m ∧ m.length ≤ 600 := by
              match q, hltq with
              | 0, _ => exact ⟨A, p, c, rfl, hP2, hby, h6⟩
              | 1, _ => exact ⟨_, List.replicate (199 + i3) 0, 199 + i3, by rw [List.length_replicate]; rfl, RL2.ints, fun x hx => by rw [(List.mem_replicate.1 hx).2]; omega, by rw [List.length_replicate]; omega⟩
            have hcs := (Blk.cell (GS.below hbq) q).trans hcm
            have hIq := (hIm.below hbq).more hbq.size
            go_wp2_with fail
            refine (encode_any kk Am cm m _ hIq hBm (by omega)).mono ?_
            rintro e w3 ⟨hb3, h3⟩
            have hI3 := (hIq.below hb3).more hb3.size
            rcases h3 with ⟨hok, g, rfl, hg, hR⟩ | ⟨hok, rfl⟩
            · have hk : 0 ≤ kk ∧ kk ≤ 255 ∧ m.length ≤ 200 := by simp [encOk] at hok; omega
              have heb := enc_byte hk.1 hk.2.1 hBm hk.2.2
              go_wp2_with fail
              refine (rencode_any kk Am cm m _ hI3 hBm (by omega)).mono ?_
              rintro e w4 ⟨hb4, h4⟩
              rcases h4 with ⟨_, v, rfl, hO⟩ | ⟨hno, _⟩
              · obtain ⟨g2, c2, hv, _, _, _, _, hI4⟩ := own_cut hO (enc_len kk m) (by omega)
                subst hv
                have K1 := str_of (cap := m.length + 10) (enc_len kk m) (hR.below hb4).ints heb
                have K2 := str_of (cap := c2) (enc_len kk m) hI4 heb
                have b4 := hb3.trans (hb4.mono hb3.size)
                clear hok hcm hcs hI3 hIq
                go_wp2
                go_roundw
                case rel => exact ⟨q + 1, by omega, by go_num, hbq.trans (b4.mono hbq.size)⟩
                case measure => simp [intOf]; omega
              · rw [hok] at hno; cases hno
            · go_wp2_with fail
              refine (rencode_any kk Am cm m _ hI3 hBm (by omega)).mono ?_
              rintro e w4 ⟨hb4, h4⟩
              rcases h4 with ⟨hyes, _⟩ | ⟨_, rfl⟩
              · rw [hok] at hyes; cases hyes
              · have K1 := str_of (w := w4) (A := none) (cap := 0) (B := 0) (l := []) (n := 0) rfl Ints.nil_ (fun x hx => by cases hx)
                have b4 := hb3.trans (hb4.mono hb3.size)
                clear hok hcm hcs hI3 hIq
                go_wp2
                go_roundw
                case rel => exact ⟨q + 1, by omega, by go_num, hbq.trans (b4.mono hbq.size)⟩
                case measure => simp [intOf]; omega
          · go_wp2
            go_roundw
            case rel => exact ⟨r + 1, by omega, by go_num, b2.trans (hbq.mono b2.size)⟩
            case measure => simp [intOf]; omega
      · go_wp2_with fail
        refine (fsize_any _ _).mono ?_; rintro e w2 ⟨rfl, hw2⟩; subst hw2
        go_wp2_with fail
        refine (rfsize_any _ _).mono ?_; rintro e w2 ⟨rfl, hw2⟩; subst hw2
        go_wp2_with fail
        refine (mod_s hi204 (by omega) (by omega) n0 n1 _).mono ?_; rintro e w2 ⟨rfl, hw2⟩; subst hw2
        go_wp2_with fail
        refine (fsize_any _ _).mono ?_; rintro e w2 ⟨rfl, hw2⟩; subst hw2
        go_wp2_with fail
        refine (mod_s hi204 (by omega) (by omega) n0 n1 _).mono ?_; rintro e w2 ⟨rfl, hw2⟩; subst hw2
        go_wp2_with fail
        refine (rfsize_any _ _).mono ?_; rintro e w2 ⟨rfl, hw2⟩; subst hw2
        go_wp2_with fail
        refine (awake_any _).mono ?_; rintro e w' ⟨rfl, hw⟩
        go_wp2
        go_ret
        exact ⟨rfl, (b1.trans (hbr.mono b1.size)).trans (hw.mono (b1.trans (hbr.mono b1.size)).size)⟩
  · have d6 : decide (p.length ≤ 600) = false := by simpa using h6
    go_wp2_with fail
    refine (short_any _ _ _ _ hl).mono ?_; rw [d6]; rintro e w' ⟨rfl, rfl⟩
    go_wp2_with fail
    refine (awake_any _).mono ?_; rintro e w' ⟨rfl, hw⟩
    go_wp2
    go_ret
    exact ⟨rfl, hw⟩
end Go.Proofs.Ytahemaondkjpiaa
