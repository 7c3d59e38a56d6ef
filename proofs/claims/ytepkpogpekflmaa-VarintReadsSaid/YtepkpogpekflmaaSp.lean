/-
  The helper that spoils a string of bytes returns some string of bytes in new memory.
-/
import Derived.Test.YtepkpogpekflmaaN
import Derived.Deep.RegionLaw
import Derived.StillTailTactics
namespace Go.Proofs.Ytepkpogpekflmaa
open Go.ChangeShapes Go.WideShapes Go.RowKit
set_option linter.unusedVariables false

/-- Some string of bytes is returned, in a world that only grew. -/
def SomeBytes (w : World) (e : Ending) (w' : World) : Prop :=
  ∃ A c l, e = .returned (.slice A l.length c) ∧ l.length ≤ c ∧ l.length ≤ 1300 ∧ Ints .u8 w' w'.heap.size A l ∧ Byte l ∧ Below w.heap.size w w'

set_option maxHeartbeats 4000000 in
theorem spoilt_any (A : Option Addr) (c : Nat) (b : List Int) (at' by' : Int) (w : World) (hs : Ints .u8 w w.heap.size A b) (hby : Byte b) (hl : b.length ≤ 1200)
    (a0 : -9223372036854775808 ≤ at') (a1 : at' ≤ 9223372036854775807) (b0 : -9223372036854775808 ≤ by') (b1 : by' ≤ 9223372036854775807) :
    Calls Try.prog 15 #[.slice A b.length c, .int .i64 at', .int .i64 by'] w (SomeBytes w) := by
  have hx : 0 ≤ by' % 256 ∧ by' % 256 ≤ 255 := by omega
  by_cases h0 : 0 < b.length
  · have z1 : ¬ b = [] := by rintro rfl; simp at h0
    have z2 : ((b.length : Int) == 0) = false := by simp; omega
    have hm := modI_bd at' b.length (by omega)
    have hd : -9223372036854775808 ≤ by'.tdiv 256 ∧ by'.tdiv 256 ≤ 9223372036854775807 := by
      rcases Int.le_total 0 by' with h | h
      · rw [Int.tdiv_eq_ediv_of_nonneg h]; omega
      · have : by' = -(-by') := by omega
        rw [this, Int.neg_tdiv, Int.tdiv_eq_ediv_of_nonneg (by omega)]; omega
    have hq := modI_bd (by'.tdiv 256) 4 (by decide)
    have HM := Lib.hid (mod_any at' b.length (by omega) (by omega) a0 a1)
    have HQ := Lib.hid (mod_any (by'.tdiv 256) 4 (by omega) (by omega) hd.1 hd.2)
    have HW := Lib.hid (show wrap64 (by'.tdiv 256) = by'.tdiv 256 from IntWalk.wrap64_in _ ⟨by omega, by omega⟩)
    obtain ⟨k, hk⟩ : ∃ n : Nat, modI at' b.length = n := Int.eq_ofNat_of_zero_le hm.1
    rw [hk] at hm
    have HK := Lib.hid hk
    clear hk hd
    generalize hqq : modI (by'.tdiv 256) 4 = q at *
    have HQQ := Lib.hid hqq
    clear hqq
    have hkl : k < b.length := by omega
    have hcase : q = 0 ∨ q = 1 ∨ q = 2 ∨ q = 3 := by omega
    go_enter Try.func15, Try.ntmps15
    go_wp2_with (at_builtin; refine wpList_append_ints rfl (.const (.slice none 0 0)) (.tmp 9) _ rfl w.heap.size 5 .u8 1 Try.underlying25 byte_info (.slice none 0 0) [] rfl (Own.nil_ _ _ _ _) A c b b.length rfl rfl hs (by simp; omega) (by omega) (Nat.le_refl _) ?_; intro v1 w1 hown1 hg1 hat1; rw [List.nil_append] at hown1; have hb1 : Below w.heap.size w w1 := (Below.refl _ _).grown hg1 (Nat.le_refl _) (by simp [Value.ownBlock]); obtain ⟨g, cap, rfl, hbg, hg⟩ := hown1.form h0; clear hg1 hat1)
    refine (HM.out _).mono ?_; rw [HK.out]; rintro e w' ⟨rfl, rfl⟩
    have hcell := hown1.cell hkl
    have hcap : b.length ≤ cap := by obtain ⟨_, _, hv, h, _, _⟩ := hown1.ints; injection hv with _ _ e3; omega
    have hmax : cap ≤ 9223372036854775807 := by obtain ⟨_, _, hv, _, h, _⟩ := hown1.ints; injection hv with _ _ e3; omega
    have hI : Ints .u8 w1 w1.heap.size (some ⟨g, 0, none⟩) b := by obtain ⟨_, _, hv, _, _, h⟩ := hown1.ints; injection hv with e1 _ _; rw [e1]; exact h
    have hkc : k ≤ cap := by omega
    rcases hcase with rfl | rfl | rfl | rfl
    · go_wp2_with fail
      refine (HQ.out _).mono ?_; rintro e w' ⟨rfl, rfl⟩
      go_wp2_with fail
      go_ret
      obtain ⟨A2, c2, hv2, h1, h2, h3⟩ := (hown1.set hkl (by' % 256)).ints
      rw [List.length_set] at hv2
      exact ⟨A2, c2, b.set k (by' % 256), by rw [List.length_set, ← hv2]; rfl, h1, by rw [List.length_set]; omega, h3, hby.set k hx.1 hx.2, hb1.setCell hbg _⟩
    · go_wp2_with fail
      refine (HQ.out _).mono ?_; rintro e w' ⟨rfl, rfl⟩
      have hlen : (b.take k).length = k := by rw [List.length_take]; omega
      have hkp : k + 1 ≤ b.length := hkl
      have hne : ¬ cap = k := by omega
      have hsrc : ∃ A3 : Option Addr, (if cap = k + 1 then some (⟨g, 0, none⟩ : Addr) else some ⟨g, k + 1, none⟩) = A3 ∧ Ints .u8 w1 w1.heap.size A3 (b.drop (k + 1)) := by
        refine ⟨_, rfl, ?_⟩
        by_cases hc : cap = k + 1
        · have : b.drop (k + 1) = [] := List.drop_eq_nil_of_le (by omega)
          rw [this]; exact Ints.nil_
        · rw [if_neg hc]
          have := hI.drop (k + 1)
          rwa [Nat.zero_add] at this
      obtain ⟨A3, hA3, hsrc⟩ := hsrc
      have HA3 := Lib.hid hA3
      clear hA3
      by_cases hc1 : cap = k + 1
      · subst hc1
        have hA3 := HA3.out
        rw [if_pos rfl] at hA3
        subst hA3
        have hot : Own .u8 5 w1.drew w.heap.size (.slice (some ⟨g, 0, none⟩) k (k + 1)) (b.take k) := hown1.take k (by omega)
        have hsd : Ints .u8 w1.drew w1.drew.heap.size (some ⟨g, 0, none⟩) (b.drop (k + 1)) := hsrc
        have hbd : w.heap.size ≤ w1.drew.heap.size := hb1.size
        have hb1d : Below w.heap.size w w1.drew := hb1.drew
        have hln : (b.take k).length + (b.drop (k + 1)).length ≤ 1000000000000 := by simp; omega
        have hld : (b.drop (k + 1)).length = 0 := by simp; omega
        have e8 : (1 : Nat) ≤ 8 := by omega
        have HSM := Lib.hid (show SomeBytes w = SomeBytes w from rfl)
        go_wp2_with fail
        have s1 : IntKind.i64.wrap ((k : Int) + 1) = k + 1 := IntWalk.i64_in _ (by omega)
        have s2 : 0 ≤ (k : Int) + 1 := by omega
        have s3 : ((k : Int) + 1).toNat = k + 1 := by omega
        have s4 : (k : Int) + 1 ≤ b.length := by omega
        have s5 : (k : Int) ≤ (k : Int) + 1 := by omega
        go_still_tail 7, (by kernel_rfl)
        clear s1 s2 s3 s4 s5
        change wpList _ _ _ _ _ w1.drew
        generalize w1.drew = w2 at *
        go_wp2_with (at_builtin; refine wpList_append_ints rfl (.tmp 38) (.tmp 42) _ rfl w.heap.size 5 .u8 1 Try.underlying25 byte_info _ (b.take k) rfl hot _ _ (b.drop (k + 1)) _ hld rfl hsd hln e8 hbd ?_; intro v3 w3 hown3 hg3 hat3; clear hat3)
        go_ret
        obtain ⟨A4, c4, rfl, h1, h2, h3⟩ := hown3.ints
        exact ⟨A4, c4, _, rfl, h1, by have := hln; simp at this ⊢; omega, h3, (hby.take _).app (hby.drop _), hb1d.grown hg3 hbd (fun n hn => by have e : g = n := Option.some.inj hn; omega)⟩
      · have hA3 := HA3.out
        rw [if_neg hc1] at hA3
        subst hA3
        have hot : Own .u8 5 w1.drew w.heap.size (.slice (some ⟨g, 0, none⟩) k cap) (b.take k) := hown1.take k (by omega)
        have hsd : Ints .u8 w1.drew w1.drew.heap.size (some ⟨g, k + 1, none⟩) (b.drop (k + 1)) := hsrc
        have hbd : w.heap.size ≤ w1.drew.heap.size := hb1.size
        have hb1d : Below w.heap.size w w1.drew := hb1.drew
        have hln : (b.take k).length + (b.drop (k + 1)).length ≤ 1000000000000 := by simp; omega
        have hld : (b.drop (k + 1)).length = b.length - (k + 1) := by simp
        have e8 : (1 : Nat) ≤ 8 := by omega
        have HSM := Lib.hid (show SomeBytes w = SomeBytes w from rfl)
        go_wp2_with fail
        have s1 : IntKind.i64.wrap ((k : Int) + 1) = k + 1 := IntWalk.i64_in _ (by omega)
        have s2 : 0 ≤ (k : Int) + 1 := by omega
        have s3 : ((k : Int) + 1).toNat = k + 1 := by omega
        have s4 : (k : Int) + 1 ≤ b.length := by omega
        have s5 : (k : Int) ≤ (k : Int) + 1 := by omega
        go_still_tail 7, (by kernel_rfl)
        clear s1 s2 s3 s4 s5
        change wpList _ _ _ _ _ w1.drew
        generalize w1.drew = w2 at *
        go_wp2_with (at_builtin; refine wpList_append_ints rfl (.tmp 38) (.tmp 42) _ rfl w.heap.size 5 .u8 1 Try.underlying25 byte_info _ (b.take k) rfl hot _ _ (b.drop (k + 1)) _ hld rfl hsd hln e8 hbd ?_; intro v3 w3 hown3 hg3 hat3; clear hat3)
        go_ret
        obtain ⟨A4, c4, rfl, h1, h2, h3⟩ := hown3.ints
        exact ⟨A4, c4, _, rfl, h1, by have := hln; simp at this ⊢; omega, h3, (hby.take _).app (hby.drop _), hb1d.grown hg3 hbd (fun n hn => by have e : g = n := Option.some.inj hn; omega)⟩
    · go_wp2_with fail
      refine (HQ.out _).mono ?_; rintro e w' ⟨rfl, rfl⟩
      have hlen : (b.take k).length = k := by rw [List.length_take]; omega
      have hld : (b.drop k).length = b.length - k := by simp
      have hI1 := hI.take k
      have hI2 := hI.drop k
      rw [Nat.zero_add] at hI2
      have hne : ¬ cap = k := by omega
      go_wp2_with fail
      refine wp_region_any (by kernel_rfl) ?_
      change wpAny _ _ _ _ 13 _ _ w1.drew
      refine wpAny_take (i := 0) rfl (by kernel_rfl) (by kernel_rfl) (by kernel_rfl) (fun _ _ _ h => h) (v := .slice (some ⟨g, 0, none⟩) b.length cap) (Or.inl ⟨rfl, fun w => rfl⟩) ?_
      try simp only [Act.put, List.setIfInBounds_toArray, List.set_cons_zero, List.set_cons_succ]
      refine wpAny_take (i := 1) rfl (by kernel_rfl) (by kernel_rfl) (by kernel_rfl) (fun _ _ _ h => h) (v := .int .i64 k) (Or.inl ⟨rfl, fun w => rfl⟩) ?_
      try simp only [Act.put, List.setIfInBounds_toArray, List.set_cons_zero, List.set_cons_succ]
      have i0 : (0 : Int) ≤ k := by omega
      have i1 : (k : Int) ≤ cap := by omega
      have i2 : (k : Int) ≤ b.length := by omega
      have PUT : True := trivial
      refine wpAny_take (i := 2) rfl (by kernel_rfl) (by kernel_rfl) (by kernel_rfl) (fun _ _ _ h => h) (v := .slice (some ⟨g, 0, none⟩) k cap) (Or.inl ⟨rfl, fun w => by go_simp⟩) ?_
      try simp only [Act.put, List.setIfInBounds_toArray, List.set_cons_zero, List.set_cons_succ]
      refine wpAny_take (i := 4) rfl (by kernel_rfl) (by kernel_rfl) (by kernel_rfl) (fun _ _ _ h => h) (v := .int .i64 by') (Or.inl ⟨rfl, fun w => rfl⟩) ?_
      try simp only [Act.put, List.setIfInBounds_toArray, List.set_cons_zero, List.set_cons_succ]
      refine wpAny_take (i := 5) rfl (by kernel_rfl) (by kernel_rfl) (by kernel_rfl) (fun _ _ _ h => h) (v := .int .u8 (IntKind.u8.wrap by')) (Or.inl ⟨rfl, fun w => by go_simp⟩) ?_
      try simp only [Act.put, List.setIfInBounds_toArray, List.set_cons_zero, List.set_cons_succ]
      refine wpAny_take (i := 8) rfl (by kernel_rfl) (by kernel_rfl) (by kernel_rfl) (fun _ _ _ h => h) (v := .slice (some ⟨g, 0, none⟩) b.length cap) (Or.inl ⟨rfl, fun w => rfl⟩) ?_
      try simp only [Act.put, List.setIfInBounds_toArray, List.set_cons_zero, List.set_cons_succ]
      refine wpAny_take (i := 9) rfl (by kernel_rfl) (by kernel_rfl) (by kernel_rfl) (fun _ _ _ h => h) (v := .int .i64 k) (Or.inl ⟨rfl, fun w => rfl⟩) ?_
      try simp only [Act.put, List.setIfInBounds_toArray, List.set_cons_zero, List.set_cons_succ]
      refine wpAny_take (i := 10) rfl (by kernel_rfl) (by kernel_rfl) (by kernel_rfl) (fun _ _ _ h => h) (v := .slice (some ⟨g, k, none⟩) (b.length - k) (cap - k)) (Or.inl ⟨rfl, fun w => by go_simp⟩) ?_
      try simp only [Act.put, List.setIfInBounds_toArray, List.set_cons_zero, List.set_cons_succ]
      have hXb : 0 ≤ IntKind.u8.wrap by' ∧ IntKind.u8.wrap by' ≤ 255 := by rw [IntKind.wrap_u8]; omega
      have hbd : w.heap.size ≤ w1.drew.heap.size := hb1.size
      have hb1d : Below w.heap.size w w1.drew := hb1.drew
      have hI1d : Ints .u8 w1.drew w1.drew.heap.size (some ⟨g, 0, none⟩) (b.take k) := hI1
      have hI2d : Ints .u8 w1.drew w1.drew.heap.size (some ⟨g, k, none⟩) (b.drop k) := hI2
      have hgd : g < w1.drew.heap.size := hg
      generalize w1.drew = W0 at *
      refine wpAny_all (rs := [3, 6]) (by kernel_rfl) (by simp) (fun i hi => ?_)
      have hi2 : i = 3 ∨ i = 6 := by simpa using hi
      clear hi
      rcases hi2 with rfl | rfl
      · refine wpOp_step rfl (fun K3 hK3 => ?_)
        try simp only [List.getElem_toArray, List.getElem_cons_succ, List.getElem_cons_zero]
        rw [if_pos (by rfl)]
        refine wp_append_ints (.const (.slice none 0 0)) (.tmp 48) _ rfl w.heap.size 5 .u8 1 Try.underlying25 byte_info (.slice none 0 0) [] rfl (Own.nil_ _ _ _ _) (some ⟨g, 0, none⟩) cap (b.take k) k hlen (by simp [Act.eval]) hI1d (by simp; omega) (by omega) hbd ?_
        intro v3 w3 O3 hg3 hat3
        rw [List.nil_append] at O3
        have b3 : Below W0.heap.size W0 w3 := (Below.refl W0.heap.size W0).grown hg3 (Nat.le_refl _) (fun q hq => by cases hq)
        have hv3 : ¬ (some g = v3.ownBlock) := fun e => by
          rcases hat3 with h | h
          · rw [h] at e; cases e
          · rw [h] at e; injection e with e; omega
        clear hg3 hat3
        refine hK3 _ _ ?_
        try simp only [Act.put, List.setIfInBounds_toArray, List.set_cons_zero, List.set_cons_succ]
        refine wpAny_all (rs := [6]) (by kernel_rfl) (by simp) (fun i hi => ?_)
        obtain rfl : i = 6 := by simpa using hi
        clear hi
        refine wpOp_step rfl (fun K6 hK6 => ?_)
        try simp only [List.getElem_toArray, List.getElem_cons_succ, List.getElem_cons_zero]
        rw [if_pos (by rfl)]
        go_simp
        have OX := O3.alloc (.cells #[.int .u8 (IntKind.u8.wrap by')] 5)
        have bX : Below W0.heap.size W0 (w3.alloc (.cells #[.int .u8 (IntKind.u8.wrap by')] 5)) := b3.alloc b3.size _
        have SX : Ints .u8 (w3.alloc (.cells #[.int .u8 (IntKind.u8.wrap by')] 5)) (w3.alloc (.cells #[.int .u8 (IntKind.u8.wrap by')] 5)).heap.size (some ⟨w3.heap.size, 0, none⟩) [IntKind.u8.wrap by'] := ints_new (fun i hi => by simp at hi; subst hi; rfl)
        have BX := hb1d.trans (bX.mono hb1d.size)
        refine hK6 _ _ ?_
        try simp only [Act.put, List.setIfInBounds_toArray, List.set_cons_zero, List.set_cons_succ]
        generalize w3.alloc (.cells #[.int .u8 (IntKind.u8.wrap by')] 5) = WX at *
        have hI2x := (hI2d.below bX).more bX.size
        generalize w3.heap.size = gx at *
        have hgX : g < WX.heap.size := Nat.lt_of_lt_of_le hgd bX.size
        have IX : ∀ w5, WX.grownBy w5 v3.ownBlock → Ints .u8 w5 w5.heap.size (some ⟨g, k, none⟩) (b.drop k) := fun w5 h5 h0 => by
          have hc : ∀ i, i < (b.drop k).length → WX.cell? ⟨g, k + i, none⟩ = some (.int .u8 (at_ (b.drop k) i)) := by
            obtain ⟨b', o', e, _, hc⟩ := hI2x h0
            cases e
            exact hc
          exact ⟨g, k, rfl, Nat.lt_of_lt_of_le hgX h5.size, fun i hi => by rw [← hc i hi]; exact World.cell?_of_block (h5.block g hgX hv3)⟩
        refine wpAny_all (rs := [7]) (by kernel_rfl) (by simp) (fun i hi => ?_)
        obtain rfl : i = 7 := by simpa using hi
        clear hi
        refine wpOp_step rfl (fun K7 hK7 => ?_)
        try simp only [List.getElem_toArray, List.getElem_cons_succ, List.getElem_cons_zero]
        rw [if_pos (by rfl)]
        refine wp_append_ints (.tmp 49) (.tmp 52) _ rfl w.heap.size 5 .u8 1 Try.underlying25 byte_info v3 (b.take k) (by simp [Act.eval]) OX (some ⟨gx, 0, none⟩) 1 [IntKind.u8.wrap by'] 1 rfl (by simp [Act.eval]) SX (by rw [hlen]; simp; omega) (by omega) BX.size ?_
        intro v5 w5 O5 hg5 hat5
        have B5 := BX.grown hg5 BX.size (fun q hq => (OX.lt hq).1)
        have I5 : Ints .u8 w5 w5.heap.size (some ⟨g, k, none⟩) (b.drop k) := IX w5 hg5
        clear hg5 hat5
        refine hK7 _ _ ?_
        try simp only [Act.put, List.setIfInBounds_toArray, List.set_cons_zero, List.set_cons_succ]
        refine wpAny_all (rs := [11]) (by kernel_rfl) (by simp) (fun i hi => ?_)
        obtain rfl : i = 11 := by simpa using hi
        clear hi
        refine wpOp_step rfl (fun K11 hK11 => ?_)
        try simp only [List.getElem_toArray, List.getElem_cons_succ, List.getElem_cons_zero]
        rw [if_pos (by rfl)]
        refine wp_append_ints (.tmp 53) (.tmp 56) _ rfl w.heap.size 5 .u8 1 Try.underlying25 byte_info v5 _ (by simp [Act.eval]) O5 (some ⟨g, k, none⟩) (cap - k) (b.drop k) (b.length - k) hld (by simp [Act.eval]) I5 (by rw [List.length_append, hlen, hld]; simp; omega) (by omega) B5.size ?_
        intro v6 w6 O6 hg6 hat6
        have B6 := B5.grown hg6 B5.size (fun q hq => (O5.lt hq).1)
        clear hg6 hat6
        refine hK11 _ _ ?_
        try simp only [Act.put, List.setIfInBounds_toArray, List.set_cons_zero, List.set_cons_succ]
        refine wpAny_all (rs := [12]) (by kernel_rfl) (by simp) (fun i hi => ?_)
        obtain rfl : i = 12 := by simpa using hi
        clear hi
        refine wpOp_step rfl (fun K12 hK12 => ?_)
        try simp only [List.getElem_toArray, List.getElem_cons_succ, List.getElem_cons_zero]
        rw [if_pos (by rfl)]
        go_simp
        refine hK12 _ _ ?_
        try simp only [Act.put, List.setIfInBounds_toArray, List.set_cons_zero, List.set_cons_succ]
        refine wpAny_done (by kernel_rfl) ?_ _
        go_wp2
        go_ret
        obtain ⟨A4, c4, rfl, h1, h2, h3⟩ := O6.ints
        exact ⟨A4, c4, _, rfl, h1, by rw [List.length_append, List.length_append, hlen, hld]; simp; omega, h3, ((hby.take k).app (Byte.one hXb.1 hXb.2)).app (hby.drop k), B6⟩
      · refine wpOp_step rfl (fun K6 hK6 => ?_)
        try simp only [List.getElem_toArray, List.getElem_cons_succ, List.getElem_cons_zero]
        rw [if_pos (by rfl)]
        go_simp
        have bY : Below W0.heap.size W0 (W0.alloc (.cells #[.int .u8 (IntKind.u8.wrap by')] 5)) := lat_alloc (Below.refl _ _) _
        have SY : Ints .u8 (W0.alloc (.cells #[.int .u8 (IntKind.u8.wrap by')] 5)) (W0.alloc (.cells #[.int .u8 (IntKind.u8.wrap by')] 5)).heap.size (some ⟨W0.heap.size, 0, none⟩) [IntKind.u8.wrap by'] := ints_new (fun i hi => by simp at hi; subst hi; rfl)
        have BY := hb1d.trans (bY.mono hb1d.size)
        refine hK6 _ _ ?_
        try simp only [Act.put, List.setIfInBounds_toArray, List.set_cons_zero, List.set_cons_succ]
        have hI1y := (hI1d.below bY).more bY.size
        have hI2y := (hI2d.below bY).more bY.size
        have hgY := Nat.lt_of_lt_of_le hgd bY.size
        generalize W0.alloc (.cells #[.int .u8 (IntKind.u8.wrap by')] 5) = WY at *
        generalize W0.heap.size = gx at *
        refine wpAny_all (rs := [3]) (by kernel_rfl) (by simp) (fun i hi => ?_)
        obtain rfl : i = 3 := by simpa using hi
        clear hi
        refine wpOp_step rfl (fun K3 hK3 => ?_)
        try simp only [List.getElem_toArray, List.getElem_cons_succ, List.getElem_cons_zero]
        rw [if_pos (by rfl)]
        refine wp_append_ints (.const (.slice none 0 0)) (.tmp 48) _ rfl w.heap.size 5 .u8 1 Try.underlying25 byte_info (.slice none 0 0) [] rfl (Own.nil_ _ _ _ _) (some ⟨g, 0, none⟩) cap (b.take k) k hlen (by simp [Act.eval]) hI1y (by simp; omega) (by omega) BY.size ?_
        intro v3 w3 O3 hg3 hat3
        rw [List.nil_append] at O3
        have bX : Below WY.heap.size WY w3 := (Below.refl WY.heap.size WY).grown hg3 (Nat.le_refl _) (fun q hq => by cases hq)
        have hv3 : ¬ (some g = v3.ownBlock) := fun e => by
          rcases hat3 with h | h
          · rw [h] at e; cases e
          · rw [h] at e; injection e with e; omega
        clear hg3 hat3
        have OX := O3
        have SX := (SY.below bX).more bX.size
        have BX := BY.trans (bX.mono BY.size)
        refine hK3 _ _ ?_
        try simp only [Act.put, List.setIfInBounds_toArray, List.set_cons_zero, List.set_cons_succ]
        have hI2x := (hI2y.below bX).more bX.size
        have hgX : g < w3.heap.size := Nat.lt_of_lt_of_le hgY bX.size
        have IX : ∀ w5, w3.grownBy w5 v3.ownBlock → Ints .u8 w5 w5.heap.size (some ⟨g, k, none⟩) (b.drop k) := fun w5 h5 h0 => by
          have hc : ∀ i, i < (b.drop k).length → w3.cell? ⟨g, k + i, none⟩ = some (.int .u8 (at_ (b.drop k) i)) := by
            obtain ⟨b', o', e, _, hc⟩ := hI2x h0
            cases e
            exact hc
          exact ⟨g, k, rfl, Nat.lt_of_lt_of_le hgX h5.size, fun i hi => by rw [← hc i hi]; exact World.cell?_of_block (h5.block g hgX hv3)⟩
        refine wpAny_all (rs := [7]) (by kernel_rfl) (by simp) (fun i hi => ?_)
        obtain rfl : i = 7 := by simpa using hi
        clear hi
        refine wpOp_step rfl (fun K7 hK7 => ?_)
        try simp only [List.getElem_toArray, List.getElem_cons_succ, List.getElem_cons_zero]
        rw [if_pos (by rfl)]
        refine wp_append_ints (.tmp 49) (.tmp 52) _ rfl w.heap.size 5 .u8 1 Try.underlying25 byte_info v3 (b.take k) (by simp [Act.eval]) OX (some ⟨gx, 0, none⟩) 1 [IntKind.u8.wrap by'] 1 rfl (by simp [Act.eval]) SX (by rw [hlen]; simp; omega) (by omega) BX.size ?_
        intro v5 w5 O5 hg5 hat5
        have B5 := BX.grown hg5 BX.size (fun q hq => (OX.lt hq).1)
        have I5 : Ints .u8 w5 w5.heap.size (some ⟨g, k, none⟩) (b.drop k) := IX w5 hg5
        clear hg5 hat5
        refine hK7 _ _ ?_
        try simp only [Act.put, List.setIfInBounds_toArray, List.set_cons_zero, List.set_cons_succ]
        refine wpAny_all (rs := [11]) (by kernel_rfl) (by simp) (fun i hi => ?_)
        obtain rfl : i = 11 := by simpa using hi
        clear hi
        refine wpOp_step rfl (fun K11 hK11 => ?_)
        try simp only [List.getElem_toArray, List.getElem_cons_succ, List.getElem_cons_zero]
        rw [if_pos (by rfl)]
        refine wp_append_ints (.tmp 53) (.tmp 56) _ rfl w.heap.size 5 .u8 1 Try.underlying25 byte_info v5 _ (by simp [Act.eval]) O5 (some ⟨g, k, none⟩) (cap - k) (b.drop k) (b.length - k) hld (by simp [Act.eval]) I5 (by rw [List.length_append, hlen, hld]; simp; omega) (by omega) B5.size ?_
        intro v6 w6 O6 hg6 hat6
        have B6 := B5.grown hg6 B5.size (fun q hq => (O5.lt hq).1)
        clear hg6 hat6
        refine hK11 _ _ ?_
        try simp only [Act.put, List.setIfInBounds_toArray, List.set_cons_zero, List.set_cons_succ]
        refine wpAny_all (rs := [12]) (by kernel_rfl) (by simp) (fun i hi => ?_)
        obtain rfl : i = 12 := by simpa using hi
        clear hi
        refine wpOp_step rfl (fun K12 hK12 => ?_)
        try simp only [List.getElem_toArray, List.getElem_cons_succ, List.getElem_cons_zero]
        rw [if_pos (by rfl)]
        go_simp
        refine hK12 _ _ ?_
        try simp only [Act.put, List.setIfInBounds_toArray, List.set_cons_zero, List.set_cons_succ]
        refine wpAny_done (by kernel_rfl) ?_ _
        go_wp2
        go_ret
        obtain ⟨A4, c4, rfl, h1, h2, h3⟩ := O6.ints
        exact ⟨A4, c4, _, rfl, h1, by rw [List.length_append, List.length_append, hlen, hld]; simp; omega, h3, ((hby.take k).app (Byte.one hXb.1 hXb.2)).app (hby.drop k), B6⟩
    · go_wp2_with fail
      refine (HQ.out _).mono ?_; rintro e w' ⟨rfl, rfl⟩
      go_wp2_with fail
      go_ret
      have hlen : (b.take k).length = k := by rw [List.length_take]; omega
      exact ⟨some ⟨g, 0, none⟩, cap, b.take k, by rw [hlen]; rfl, by omega, by omega, hI.take k, hby.take k, hb1⟩
  · have hb0 : b = [] := List.eq_nil_of_length_eq_zero (by omega)
    subst hb0
    go_enter Try.func15, Try.ntmps15
    go_wp2_with (at_builtin; refine wpList_append_ints rfl (.const (.slice none 0 0)) (.tmp 9) _ rfl w.heap.size 5 .u8 1 Try.underlying25 byte_info (.slice none 0 0) [] rfl (Own.nil_ _ _ _ _) A c [] 0 rfl rfl hs (by simp) (by omega) (Nat.le_refl _) ?_; intro v1 w1 hown1 hg1 hat1; have hb1 : Below w.heap.size w w1 := (Below.refl _ _).grown hg1 (Nat.le_refl _) (by simp [Value.ownBlock]); obtain ⟨A1, c1, rfl, _, _, _⟩ := hown1.ints; clear hg1 hat1)
    go_ret
    exact ⟨some ⟨w1.heap.size, 0, none⟩, 1, [by' % 256], rfl, by simp, by simp, ints_new (fun i hi => by simp at hi; subst hi; rfl), Byte.one hx.1 hx.2, hb1.alloc hb1.size _⟩
end Go.Proofs.Ytepkpogpekflmaa
