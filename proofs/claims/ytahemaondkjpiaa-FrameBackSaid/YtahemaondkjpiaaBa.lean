/-
  The law FrameBack answers true: its walk. Conditions: none.
-/
import Derived.Test.YtahemaondkjpiaaFe
namespace Go.Proofs.Ytahemaondkjpiaa
open Go.ChangeShapes Go.WideShapes Go.RowKit
set_option linter.unusedVariables false

set_option maxHeartbeats 1000000 in
theorem back_any (kind : Int) (A : Option Addr) (c : Nat) (p : List Int) (A' : Option Addr) (c' : Nat) (more : List Int) (cut : Int) (w : World) (k0 : -9223372036854775808 ≤ kind) (k1 : kind ≤ 9223372036854775807) (hs : Ints .u8 w w.heap.size A p) (hby : Byte p) (hl : p.length ≤ 9223372036854775807)
    (hs' : Ints .u8 w w.heap.size A' more) (hby' : Byte more) (hl' : more.length ≤ 9223372036854775807) (n0 : -9223372036854775808 ≤ cut) (n1 : cut ≤ 9223372036854775807) :
    Calls Try.prog 6 #[.int .i64 kind, .slice A p.length c, .slice A' more.length c', .int .i64 cut] w fun e w' => e = .returned (.bool true) ∧ Below w.heap.size w w' := by
  go_enter Try.func6, Try.ntmps6
  by_cases h200 : 200 < p.length
  · go_wp2_with fail
    refine (awake_any _).mono ?_; rintro e w' ⟨rfl, hw⟩
    go_wp2
    go_ret
    exact ⟨rfl, hw⟩
  by_cases h6 : more.length ≤ 600
  · have d6 : decide (more.length ≤ 600) = true := by simpa using h6
    obtain ⟨i22, hi22, hi22'⟩ := mod_n kind 22 (by omega)
    obtain ⟨ic, hic, hic'⟩ := mod_n cut (p.length + 10) (by omega)
    have hic2 : modI cut ((p.length : Int) + 10) = ic := by have := hic; push_cast at this; exact this
    have HIC := Lib.hid hic2
    clear hic hic2
    go_wp2_with fail
    refine (short_any _ _ _ _ hl').mono ?_; rw [d6]; rintro e w' ⟨rfl, hw'⟩; subst hw'
    go_wp2_with fail
    refine (mod_s hi22 (by omega) (by omega) k0 k1 _).mono ?_; rintro e w' ⟨rfl, hw'⟩; subst hw'
    go_wp2_with fail
    have hkd : 1 ≤ (1 : Int) + i22 ∧ (1 : Int) + i22 ≤ 22 := by omega
    generalize (1 : Int) + i22 = kd at *
    refine (encode_any kd A c p _ hs hby hl).mono ?_
    rintro e w1 ⟨hb1, h1⟩
    rcases h1 with ⟨_, g, rfl, hg, hR⟩ | ⟨hno, _⟩
    · have hsz : sizeF p.length = (p.length : Int) + 10 := by rw [sizeF, if_neg (by omega)]
      have HSZ := Lib.hid hsz
      have heb := enc_byte (k := kd) (by omega) (by omega) hby (by omega)
      clear hsz
      go_wp2_with fail
      refine (fsize_any _ _).mono ?_; rw [HSZ.out]; rintro e w2 ⟨rfl, hw2⟩; subst hw2
      have O1n := enc_len kd p
      have HEL := Lib.hid O1n
      clear O1n
      go_wp2_with (first
        | (show wpList _ _ _ (Oper.mk (some 52) _ _ _ _ _ :: _) _ _; at_builtin; refine wpList_append_ints rfl (.const (.slice none 0 0)) (.tmp 51) _ rfl w1.heap.size 5 .u8 1 Try.underlying22 byte_info _ [] rfl (Own.nil_ _ _ _ _) _ _ (encL kd p) (p.length + 10) HEL.out rfl hR.ints (by rw [HEL.out]; simp; omega) (by omega) (Nat.le_refl _) ?_; intro v2 w2 O2 hg2 hat2; have b2 : Below w1.heap.size w1 w2 := (Below.refl w1.heap.size w1).grown hg2 (Nat.le_refl _) (fun k hk => by cases hk); rw [List.nil_append] at O2; clear hg2 hat2)
        | (show wpList _ _ _ (Oper.mk (some 54) _ _ _ _ _ :: _) _ _; at_builtin; refine wpList_append_ints rfl (.tmp 52) (.tmp 53) _ rfl w1.heap.size 5 .u8 1 Try.underlying22 byte_info _ _ rfl O2 _ _ more more.length rfl rfl (((hs'.below hb1).more hb1.size).grow b2) (by rw [HEL.out]; omega) (by omega) b2.size ?_; intro v3 w3 O3 hg3 hat3; have b3 : Below w1.heap.size w1 w3 := b2.grown hg3 b2.size (fun k hk => (O2.lt hk).1); clear hg3 hat3; obtain ⟨g3, c3, hv3, _, _, hc3, hc3', hI3⟩ := own_cut O3 (n := p.length + 10 + more.length) (by rw [List.length_append, HEL.out]) (by omega); subst hv3))
      have hpar : par (encL kd p ++ more) = (0, kd, p, (p.length : Int) + 10, true) := by
        rw [enc_par more hkd.1 hkd.2 (by omega)]
        push_cast
        rfl
      have HPAR := Lib.hid hpar
      clear hpar
      refine (parse_known (n := p.length + 10 + more.length) (by rw [List.length_append, HEL.out]) HPAR.out hI3 (heb.app hby') hc3 hc3').mono ?_
      rintro e w4 ⟨hb4, P, pc, rfl, hP4⟩
      have b4 := b3.trans (hb4.mono b3.size)
      have hR4 := hR.below b4
      go_wp2_with fail
      have G11 := Blk.new (w := w4) (t := 36) (cs := #[.int .i64 0, .int .i64 kd, .slice P p.length pc])
      have bA := lat_alloc (Below.refl w4.heap.size w4) (.cells #[.int .i64 0, .int .i64 kd, .slice P p.length pc] 36)
      have hP5 := (hP4.below bA).more bA.size
      have hR5 := hR4.below bA
      have b5 := b4.trans (bA.mono b4.size)
      generalize w4.alloc (.cells #[.int .i64 0, .int .i64 kd, .slice P p.length pc] 36) = W5 at *
      generalize w4.heap.size = g11 at *
      refine (mod_s HIC.out (by omega) (by omega) n0 n1 _).mono ?_; rintro e w5 ⟨rfl, hw5⟩; subst hw5
      go_wp2_with fail
      rcases hq : par ((encL kd p).take ic) with ⟨r1, r2, r3, r4, r5⟩
      have hr5 : r5 = false := by
        have := enc_early ic hkd.1 hkd.2 (by omega) hic'
        rw [hq] at this
        exact this
      subst hr5
      have HQ := Lib.hid hq
      clear hq
      refine (parse_known (n := ic) (by rw [List.length_take, HEL.out]; omega) HQ.out (hR5.ints.take ic) (heb.take ic) (by omega) (by omega)).mono ?_
      rintro e w6 ⟨hb6, P', pc', rfl, _⟩
      have G6 := G11.below hb6
      have hP6 := (hP5.below hb6).more hb6.size
      have b6 := b5.trans (hb6.mono b5.size)
      have hA6 := ((hs.below hb1).below (b6.mono hb1.size)).more (Nat.le_trans hb1.size b6.size)
      have bB := lat_alloc (Below.refl w6.heap.size w6) (.cells #[.int .i64 r1, .int .i64 r2, .slice P' r3.length pc'] 36)
      obtain ⟨t0, t1, t2, _, _, _⟩ := (G6.below bB).three
      have K1 := str_of (cap := pc) (n := p.length) rfl ((hP6.below bB).more bB.size) hby
      have K2 := str_of (cap := c) (n := p.length) rfl ((hA6.below bB).more bB.size) hby
      have b7 := hb1.trans ((b6.trans (bB.mono b6.size)).mono hb1.size)
      clear hP6 hA6 hP5 hR5 hR4 hP4 hI3 O3 O2 hR
      go_wp2_with fail
      refine (awake_any _).mono ?_; rintro e w8 ⟨rfl, hw8⟩
      go_wp2
      go_ret
      exact ⟨rfl, b7.trans (hw8.mono b7.size)⟩
    · have : encOk kd p = true := by simp [encOk]; omega
      rw [this] at hno; cases hno
  · have d6 : decide (more.length ≤ 600) = false := by simpa using h6
    go_wp2_with fail
    refine (short_any _ _ _ _ hl').mono ?_; rw [d6]; rintro e w' ⟨rfl, rfl⟩
    go_wp2_with fail
    refine (awake_any _).mono ?_; rintro e w' ⟨rfl, hw⟩
    go_wp2
    go_ret
    exact ⟨rfl, hw⟩
end Go.Proofs.Ytahemaondkjpiaa
