/-
  The law VarintBack answers true for all arguments: its walk. Conditions: none.
-/
import Derived.Test.YtepkpogpekflmaaP
namespace Go.Proofs.Ytepkpogpekflmaa
open Go.ChangeShapes Go.WideShapes Go.RowKit
set_option linter.unusedVariables false
attribute [local go_sem ↓] Go.wp_at_zero Go.wp_at_succ

set_option maxHeartbeats 1000000 in
theorem back_any (n : Int) (A : Option Addr) (c : Nat) (more : List Int) (w : World) (ha : -9223372036854775808 ≤ n) (hb : n ≤ 9223372036854775807)
    (hs : Ints .u8 w w.heap.size A more) (hby : Byte more) (hl : more.length ≤ 9223372036854775807) (hlc : more.length ≤ c) :
    Calls Try.prog 5 #[.int .i64 n, .slice A more.length c] w fun e w' => e = .returned (.bool true) ∧ Below w.heap.size w w' := by
  by_cases hsh : more.length ≤ 600
  · have h1 := modI_bd n 1000 (by decide)
    have h3 := near_bd n
    have h5 := modI_bd (nearI n + modI n 1000) 4294967296 (by decide)
    go_enter Try.func5, Try.ntmps5
    go_wp2_with fail
    refine (short_any _ _ _ _ hl).mono ?_; rintro e w' ⟨rfl, rfl⟩
    go_wp2_with fail
    refine (near_any n ha hb _).mono ?_; rintro e w1 ⟨rfl, hb1⟩
    go_wp2_with fail
    refine (mod_any n 1000 (by omega) (by omega) ha hb _).mono ?_; rintro e w' ⟨rfl, rfl⟩
    go_wp2_with fail
    refine (mod_any (nearI n + modI n 1000) 4294967296 (by omega) (by omega) (by omega) (by omega) _).mono ?_; rintro e w' ⟨rfl, rfl⟩
    generalize modI (nearI n + modI n 1000) 4294967296 = x at *
    clear h1 h3
    go_wp2_with fail
    refine (encode_yes x h5.1 (by omega) _).mono ?_; rintro e w2 ⟨v2, rfl, hown2, hb2⟩
    obtain ⟨A2, c2, rfl, hc2, hm2, hs2⟩ := hown2.ints
    have hbw : Below w.heap.size w w2 := hb1.trans (hb2.mono hb1.size)
    clear hown2 hb1 hb2
    have q2 : ((enc x).length : Int) ≤ 5 := by have := enc_len x; omega
    have q2' : (enc x).length ≤ 5 := enc_len x
    have HSZ := Lib.hid (enc_size h5.1 (show x ≤ 4294967295 by omega))
    have hdec := dec_enc h5.1 (show x ≤ 4294967295 by omega) more
    have HD := Lib.hid hdec
    clear hdec
    go_wp2_with (first
      | (at_builtin; refine wpList_append_ints rfl (.const (.slice none 0 0)) (.tmp 31) _ rfl w.heap.size 5 .u8 1 Try.underlying25 byte_info (.slice none 0 0) [] rfl (Own.nil_ _ _ _ _) A2 c2 (enc x) (enc x).length rfl rfl hs2 (by simp; omega) (by omega) hbw.size ?_; intro v3 w3 hown3 hg3 hat3; rw [List.nil_append] at hown3; have hb3 : Below w.heap.size w w3 := hbw.grown hg3 hbw.size (by simp [Value.ownBlock]); clear hg3 hat3)
      | (at_builtin; refine wpList_append_ints rfl (.tmp 32) (.tmp 33) _ rfl w.heap.size 5 .u8 1 Try.underlying25 byte_info v3 (enc x) rfl hown3 A c more more.length rfl rfl ((hs.below hb3).more hb3.size) (by omega) (by omega) hb3.size ?_; intro v4 w4 hown4 hg4 hat4; have hb4 : Below w.heap.size w w4 := hb3.grown hg4 hb3.size (fun k hk => (hown3.lt hk).1); obtain ⟨A4, c4, rfl, hc4, hm4, hs4⟩ := hown4.ints; clear hown3 hat4 hown4 hg4))
    have hdc := decode_any A4 c4 (enc x ++ more) w4 hs4 ((enc_byte x h5.1).app hby) (by simp; omega)
    rw [List.length_append, HD.out] at hdc
    refine hdc.mono ?_; unfold trip; rintro e w' ⟨rfl, rfl⟩
    clear hdc
    go_wp2_with (go_at_call 11; refine (size_any _ _).mono ?_; rw [← HSZ.out]; rintro e w' ⟨rfl, rfl⟩)
    have hdm := decode_any A c more w4 ((hs.below hb4).more hb4.size) hby hl
    generalize hdv : dec more = d at hdm
    obtain ⟨v, j, g⟩ := d
    have HV := Lib.hid hdv
    refine hdm.mono ?_; unfold trip; rintro e w' ⟨rfl, rfl⟩
    clear hdm hdv
    by_cases hg : g = 0
    · subst hg
      obtain ⟨v0, v1, vj, vl, vt⟩ := dec_sound hby HV.out
      have HT := Lib.hid vt
      have hcj : ((enc v).length : Int) ≤ 5 := by have := enc_len v; omega
      subst vj
      clear vt
      go_wp2_with fail
      refine (encode_yes v v0 v1 _).mono ?_; rintro e w5 ⟨v5, rfl, hown5, hb5⟩
      obtain ⟨A5, c5, rfl, hc5, hm5, hs5⟩ := hown5.ints
      have hb6 : Below w.heap.size w w5 := hb4.trans (hb5.mono hb4.size)
      have hcv5 := fun (w' : World) (h : Below w5.heap.size w5 w') => run_str (P := Try.prog) w' 25 9 5 A5 c5 _ (enc v) Try.underlying25 Try.underlying5 Try.underlying9 (hs5.below h) (enc_byte v v0)
      have hcvm := fun (w' : World) (h : Below w5.heap.size w5 w') => run_str (P := Try.prog) w' 25 9 5 A c _ (more.take (enc v).length) Try.underlying25 Try.underlying5 Try.underlying9 ((((hs.below hb6).more hb6.size).below h).take _) (hby.take _)
      rw [List.length_take, Nat.min_eq_left vl, HT.out] at hcvm
      have hd0 : decide ((enc v).length ≤ more.length) = true := by simpa using vl
      have hk4 : (enc v).length ≤ c := by omega
      go_wp2
      refine wp_region_grow (by kernel_rfl) (by kernel_rfl) ?_
      repeat (first
          | go_big_quiet_skip
          | (go_big_quiet_want; first
              | (go_big_quiet_op; go_big_quiet_on)
              | (refine quiet_det ?_; apply Exists.intro; refine ⟨fun w' hC => ?_, ?_⟩; (go_simp <;> (first | rfl | exact ⟨rfl, rfl⟩)); apply Exists.intro; refine ⟨?_, ?_⟩; (go_simp <;> (first | rfl | exact ⟨rfl, rfl⟩)); go_big_quiet_on)
              | (refine quiet_call ?_; apply Exists.intro; apply Exists.intro; refine ⟨fun w' hC => ?_, ?_⟩; (go_simp <;> (first | rfl | exact ⟨rfl, rfl⟩)); apply Exists.intro; refine ⟨fun w' hC => ?_, ?_⟩; exact (awake_any w').mono fun e w'' h => ⟨h.1, hC.trans (h.2.mono hC.size)⟩; apply Exists.intro; refine ⟨?_, ?_⟩; (go_simp <;> (first | rfl | exact ⟨rfl, rfl⟩)); go_big_quiet_on)))
      refine wpQuiet_nil ?_
      intro w' hw
      go_wp2
      go_ret
      exact ⟨rfl, hb6.trans (hw.mono hb6.size)⟩
    · have hg' : (g == 0) = false := by simpa using hg
      go_wp2_with (go_at_call 13; refine (awake_any _).mono ?_; rintro e w' ⟨rfl, hw⟩)
      go_ret
      exact ⟨rfl, hb4.trans (hw.mono hb4.size)⟩
  · have h1' : decide (more.length ≤ 600) = false := by simpa using hsh
    go_enter Try.func5, Try.ntmps5
    go_wp2_with (first
      | (go_at_call 14; refine (short_any _ _ _ _ (by assumption)).mono ?_; rintro e w' ⟨rfl, rfl⟩)
      | (go_at_call 13; refine (awake_any _).mono ?_; rintro e w' ⟨rfl, hw⟩))
    go_ret
    exact ⟨rfl, hw⟩
end Go.Proofs.Ytepkpogpekflmaa
