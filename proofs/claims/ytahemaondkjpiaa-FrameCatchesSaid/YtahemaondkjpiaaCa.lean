/-
  The law FrameCatches answers true: its walk. Conditions: none.
-/
import Derived.Test.YtahemaondkjpiaaFe
import Derived.Test.YtahemaondkjpiaaCt
namespace Go.Proofs.Ytahemaondkjpiaa
open Go.ChangeShapes Go.WideShapes Go.RowKit
set_option linter.unusedVariables false

set_option maxHeartbeats 1000000 in
theorem catches_any (kind : Int) (A : Option Addr) (c : Nat) (p : List Int) (at' : Int) (change : Int) (w : World) (k0 : -9223372036854775808 ≤ kind) (k1 : kind ≤ 9223372036854775807) (hs : Ints .u8 w w.heap.size A p) (hby : Byte p) (hl : p.length ≤ 9223372036854775807)
    (n0 : -9223372036854775808 ≤ at') (n1 : at' ≤ 9223372036854775807) (s0 : 0 ≤ change) (s1 : change ≤ 4294967295) :
    Calls Try.prog 7 #[.int .i64 kind, .slice A p.length c, .int .i64 at', .int .u32 change] w fun e w' => e = .returned (.bool true) ∧ Below w.heap.size w w' := by
  obtain ⟨ch, rfl⟩ : ∃ n : Nat, change = n := Int.eq_ofNat_of_zero_le s0
  have HS := Lib.hid s1
  clear s1
  by_cases h200 : 200 < p.length
  · go_enter Try.func7, Try.ntmps7
    go_wp2_with fail
    refine (awake_any _).mono ?_; rintro e w' ⟨rfl, hw⟩
    go_wp2
    go_ret
    exact ⟨rfl, hw⟩
  by_cases hz : p.length = 0
  · have hz' : ((p.length : Int) == 0) = true := by simp [hz]
    go_enter Try.func7, Try.ntmps7
    go_wp2_with fail
    refine (awake_any _).mono ?_; rintro e w' ⟨rfl, hw⟩
    go_wp2
    go_ret
    exact ⟨rfl, hw⟩
  have hz' : ((p.length : Int) == 0) = false := by simp; rintro rfl; exact hz rfl
  have hz2 : ¬ p = [] := by rintro rfl; exact hz rfl
  by_cases hc0 : ch = 0
  · obtain rfl : ch = 0 := hc0
    go_enter Try.func7, Try.ntmps7
    go_wp2_with fail
    refine (awake_any _).mono ?_; rintro e w' ⟨rfl, hw⟩
    go_wp2
    go_ret
    exact ⟨rfl, hw⟩
  have hc0' : ((ch : Int) == 0) = false := by simp; omega
  obtain ⟨i22, hi22, hi22'⟩ := mod_n kind 22 (by omega)
  obtain ⟨a, ha, ha'⟩ := mod_n at' (8 * p.length) (by omega)
  have ha2 : modI at' (8 * (p.length : Int)) = a := by have := ha; push_cast at this; exact this
  have HA := Lib.hid ha2
  clear ha ha2
  go_enter Try.func7, Try.ntmps7
  go_wp2_with fail
  refine (mod_s hi22 (by omega) (by omega) k0 k1 _).mono ?_; rintro e w' ⟨rfl, hw'⟩; subst hw'
  go_wp2_with fail
  have hkd : 1 ≤ (1 : Int) + i22 ∧ (1 : Int) + i22 ≤ 22 := by omega
  generalize (1 : Int) + i22 = kd at *
  refine (encode_any kd A c p _ hs hby hl).mono ?_
  rintro e w1 ⟨hb1, h1⟩
  rcases h1 with ⟨_, g, rfl, hg, hR⟩ | ⟨hno, _⟩
  · go_wp2_with fail
    refine (mod_s HA.out (by omega) (by omega) n0 n1 _).mono ?_; rintro e w2 ⟨rfl, hw2⟩; subst hw2
    rw [frm_enc] at hR
    obtain ⟨rr, hrr⟩ : ∃ r, upd 0#32 (bodyL kd p) = r := ⟨_, rfl⟩
    rw [hrr] at hR
    have HRR := Lib.hid hrr
    clear hrr
    go_wp2_with fail
    go_loopw [11, 52] (fun x i wr => ∃ (k : Nat) (C : List Int) (cg : Bool), k ≤ 32 ∧ i = .int .i64 k ∧ x = .bool cg ∧ C.length = p.length ∧ Byte C ∧ RowB wr g (frm kd p.length C rr) ∧ Below w'.heap.size w' wr ∧
      (∀ t, t < 8 * p.length → bitsOf C t = (bitsOf p t ^^ turned ch a k t)) ∧ (cg = true ↔ ∃ t, t < 8 * p.length ∧ turned ch a k t = true)) (fun _ i _ => 32 - (intOf i).toNat)
    case atStart => exact ⟨0, p, false, by omega, rfl, rfl, rfl, hby, hR, hb1, fun t _ => by rw [turned_none, Bool.xor_false], by simp [turned_none]⟩
    case round =>
      obtain ⟨k, C, cg, hk, rfl, rfl, hCl, hCb, hCo, hbw, hbits, hcg⟩ := hrel
      by_cases hlt : k < 32
      · have hb1' := bit_test ch k (by have := HS.out; omega)
        by_cases hbit : ch.testBit k = true
        · have E1 : (bits .and .u32 ((ch : Int) / 2 ^ k) 1 == 1) = true := by rw [hb1', hbit]
          have HB := Lib.hid hbit
          clear hb1' hbit
          by_cases hin : a + k < 8 * p.length
          · have hcell := hCo.cell (i := 6 + (a + k) / 8) (by rw [frm_len]; omega)
            rw [frm_at (by omega)] at hcell
            have HCL := Lib.hid hCl
            clear hCl
            go_wp2
            go_roundw
            case rel =>
              refine ⟨k + 1, C.set ((a + k) / 8) (bits .xor .u8 (at_ C ((a + k) / 8)) ((2 ^ ((a + k) % 8) : Nat) : Int)), true, by omega, by go_num, rfl, by rw [List.length_set]; exact HCL.out, flip_byte C hCb (a + k) (by have := HCL.out; omega), ?_, ?_, fun t ht => ?_, ?_⟩
              · rw [pow_byte]
                have := hCo.set (6 + (a + k) / 8) (bits .xor .u8 (at_ C ((a + k) / 8)) ((2 ^ ((a + k) % 8) : Nat) : Int))
                rw [frm_set _ _ _ _ _ _ (by have := HCL.out; omega)] at this
                exact this
              · exact hbw.setCell hg _
              · rw [bits_flip C hCb (a + k) t (by have := HCL.out; omega) _ rfl, hbits t ht, turned_next, HB.out, Bool.and_true, Bool.xor_assoc]
              · exact ⟨fun _ => ⟨a + k, hin, by rw [turned_next, HB.out]; simp [turned]⟩, fun _ => rfl⟩
            case measure => simp [intOf]; omega
          · have hin' : decide ((a : Int) + k < 8 * p.length) = false := by simp; omega
            go_wp2
            go_roundw
            case rel => exact ⟨k + 1, C, cg, by omega, by go_num, rfl, by omega, hCb, hCo, hbw, fun t ht => by rw [hbits t ht, turned_far hin ht], hcg.trans ⟨fun ⟨t, ht, h⟩ => ⟨t, ht, by rw [turned_far hin ht]; exact h⟩, fun ⟨t, ht, h⟩ => ⟨t, ht, by rw [turned_far hin ht] at h; exact h⟩⟩⟩
            case measure => simp [intOf]; omega
        · have E1 : (bits .and .u32 ((ch : Int) / 2 ^ k) 1 == 1) = false := by rw [hb1']; simpa using hbit
          have HN := Lib.hid (turned_no (a := a) hbit)
          clear hb1' hbit
          go_wp2
          go_roundw
          case rel => exact ⟨k + 1, C, cg, by omega, by go_num, rfl, by omega, hCb, hCo, hbw, fun t ht => by rw [hbits t ht, HN.out t], hcg.trans ⟨fun ⟨t, ht, h⟩ => ⟨t, ht, by rw [HN.out t]; exact h⟩, fun ⟨t, ht, h⟩ => ⟨t, ht, by rw [HN.out t] at h; exact h⟩⟩⟩
          case measure => simp [intOf]; omega
      · obtain rfl : k = 32 := by omega
        have hfb := frm_burst (k := kd) (by omega) (by omega) hby hCb hCl (by omega) ch a hbits
        rw [HRR.out] at hfb
        cases cg with
        | true =>
          have hch := hcg.1 rfl
          have hpar : par (frm kd p.length C rr) = (4, 0, [], 1, true) := by
            rw [frm_par rr hkd.1 hkd.2 (by rw [hCl]) (by omega), if_neg (fun e => (hfb.1 e) hch)]
          have HPAR := Lib.hid hpar
          have HLN := Lib.hid (show (frm kd p.length C rr).length = p.length + 10 by rw [frm_len, hCl])
          have HBY := Lib.hid (frm_byte rr (k := kd) (n := p.length) (by omega) (by omega) (by omega) (by omega) hCb)
          have HIN := Lib.hid hCo.ints
          clear hpar hbits hcg hfb hCl
          go_wp2_with fail
          refine (parse_known (n := p.length + 10) HLN.out HPAR.out HIN.out HBY.out (Nat.le_refl _) (by omega)).mono ?_
          rintro e w6 ⟨hb6, P, pc, rfl, _⟩
          have b6 := hbw.trans (hb6.mono hbw.size)
          obtain ⟨t0, t1, t2, _, _, _⟩ := (Blk.new (w := w6) (t := 36) (cs := #[.int .i64 4, .int .i64 0, .slice P ([] : List Int).length pc])).three
          have b7 := b6.alloc b6.size (.cells #[.int .i64 4, .int .i64 0, .slice P ([] : List Int).length pc] 36)
          go_wp2_with fail
          refine (awake_any _).mono ?_; rintro e w8 ⟨rfl, hw8⟩
          go_wp2
          go_ret
          exact ⟨rfl, b7.trans (hw8.mono b7.size)⟩
        | false =>
          have hch : ¬ ∃ t, t < 8 * p.length ∧ turned ch a 32 t = true := fun h => by have := hcg.2 h; cases this
          have hpar : par (frm kd p.length C rr) = (0, kd, C, ((C.length + 10 : Nat) : Int), true) := by
            rw [frm_par rr hkd.1 hkd.2 (by rw [hCl]) (by omega), if_pos (hfb.2 hch)]
          have HPAR := Lib.hid hpar
          have HLN := Lib.hid (show (frm kd p.length C rr).length = p.length + 10 by rw [frm_len, hCl])
          have HBY := Lib.hid (frm_byte rr (k := kd) (n := p.length) (by omega) (by omega) (by omega) (by omega) hCb)
          have HIN := Lib.hid hCo.ints
          clear hpar hbits hcg hfb hCl
          go_wp2_with fail
          refine (parse_known (n := p.length + 10) HLN.out HPAR.out HIN.out HBY.out (Nat.le_refl _) (by omega)).mono ?_
          rintro e w6 ⟨hb6, P, pc, rfl, _⟩
          have b6 := hbw.trans (hb6.mono hbw.size)
          obtain ⟨t0, t1, t2, _, _, _⟩ := (Blk.new (w := w6) (t := 36) (cs := #[.int .i64 0, .int .i64 kd, .slice P C.length pc])).three
          have b7 := b6.alloc b6.size (.cells #[.int .i64 0, .int .i64 kd, .slice P C.length pc] 36)
          go_wp2_with fail
          refine (awake_any _).mono ?_; rintro e w8 ⟨rfl, hw8⟩
          go_wp2
          go_ret
          exact ⟨rfl, b7.trans (hw8.mono b7.size)⟩
  · have : encOk kd p = true := by simp [encOk]; omega
    rw [this] at hno; cases hno
end Go.Proofs.Ytahemaondkjpiaa
