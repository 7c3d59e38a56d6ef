/-
  Parse of layer 3's reference. Conditions: none.
-/
import Derived.Test.YtahemaondkjpiaaPp
import Derived.Test.YtahemaondkjpiaaRe
import Derived.Laws.BitsLemmas
import Derived.Deep.RegionHeld3
import Derived.Outline
namespace Go.Proofs.Ytahemaondkjpiaa
open Go.ChangeShapes Go.WideShapes Go.RowKit
set_option linter.unusedVariables false

theorem or_sum (k : IntKind) (j s : Nat) (hj : j ≤ k.bits) (hk : ∀ n : Int, 0 ≤ n → n < 2 ^ j → k.wrap n = n) (q b : Nat) (hb : b < 2 ^ s) (ht : q * 2 ^ s + b < 2 ^ j) : bits .or k ((q : Int) * 2 ^ s) b = (q : Int) * 2 ^ s + b := by
  have h := (bits_nat k j hj hk (q * 2 ^ s) b (by omega) (by omega)).2
  have e : (q * 2 ^ s ||| b) = q * 2 ^ s + b := by
    rw [Nat.mul_comm, ← Nat.two_pow_add_eq_or_of_lt hb]
  rw [e] at h
  have c : ((q * 2 ^ s : Nat) : Int) = (q : Int) * 2 ^ s := by simp
  rw [c] at h
  rw [h]; simp
theorem or_8 {x y : Int} (x0 : 0 ≤ x) (x1 : x ≤ 255) (y0 : 0 ≤ y) (y1 : y ≤ 255) : bits .or .i64 (x * 256) y = x * 256 + y := by
  obtain ⟨a, rfl⟩ := Int.eq_ofNat_of_zero_le x0
  obtain ⟨b, rfl⟩ := Int.eq_ofNat_of_zero_le y0
  exact or_sum .i64 16 8 (by decide) (fun n h0 h1 => by rw [IntKind.wrap_i64]; omega) a b (by omega) (by omega)
theorem or_u32 (s : Nat) (hs : s ≤ 24) {x y : Int} (x0 : 0 ≤ x) (x1 : x * 2 ^ s + y < 4294967296) (y0 : 0 ≤ y) (y1 : y < 2 ^ s) : bits .or .u32 (x * 2 ^ s) y = x * 2 ^ s + y := by
  obtain ⟨a, rfl⟩ := Int.eq_ofNat_of_zero_le x0
  obtain ⟨b, rfl⟩ := Int.eq_ofNat_of_zero_le y0
  refine or_sum .u32 32 s (by decide) (fun n h0 h1 => ?_) a b (by exact_mod_cast y1) ?_
  · have : (2 : Int) ^ 32 = 4294967296 := by decide
    simp [IntKind.wrap, IntKind.signed, IntKind.bits]; omega
  · have e : (2 : Nat) ^ 32 = 4294967296 := by decide
    have : ((a * 2 ^ s + b : Nat) : Int) < 4294967296 := by simpa using x1
    omega
theorem or_four {a b c d : Int} (a0 : 0 ≤ a ∧ a ≤ 255) (b0 : 0 ≤ b ∧ b ≤ 255) (c0 : 0 ≤ c ∧ c ≤ 255) (d0 : 0 ≤ d ∧ d ≤ 255) :
    bits .or .u32 (bits .or .u32 (bits .or .u32 (a * 16777216) (b * 65536)) (c * 256)) d = sum4 a b c d := by
  have h1 : bits .or .u32 (a * 16777216) (b * 65536) = (a * 256 + b) * 65536 := by
    have := or_u32 24 (by decide) (x := a) (y := b * 65536) a0.1 (by omega) (by omega) (by omega)
    rw [show (2 : Int) ^ 24 = 16777216 by decide] at this
    rw [this]; omega
  have h2 : bits .or .u32 ((a * 256 + b) * 65536) (c * 256) = (a * 65536 + b * 256 + c) * 256 := by
    have := or_u32 16 (by decide) (x := a * 256 + b) (y := c * 256) (by omega) (by omega) (by omega) (by omega)
    rw [show (2 : Int) ^ 16 = 65536 by decide] at this
    rw [this]; omega
  have h3 := or_u32 8 (by decide) (x := a * 65536 + b * 256 + c) (y := d) (by omega) (by omega) (by omega) (by omega)
  rw [show (2 : Int) ^ 8 = 256 by decide] at h3
  rw [h1, h2, h3]
  unfold sum4; omega
theorem own_open {k : IntKind} {e : TypeId} {w : World} {base n : Nat} {v : Value} {l : List Int} (h : Own k e w base v ([] ++ l)) (hn : l.length = n) : ∃ A c, v = .slice A n c ∧ Ints k w w.heap.size A l := by
  rw [List.nil_append] at h
  obtain ⟨A, c, hv, _, _, hi⟩ := h.ints
  exact ⟨A, c, by rw [hv, hn], hi⟩
theorem cell_far3 {w : World} {b o g : Nat} {u x y z : Value} (h : w.cell? ⟨b, o, none⟩ = some u) (hne : b ≠ g) : (((w.setCell ⟨g, 0, none⟩ x).setCell ⟨g, 1, none⟩ y).setCell ⟨g, 2, none⟩ z).cell? ⟨b, o, none⟩ = some u := by
  rw [← h]
  refine (World.cell?_of_block (Below.heap_setCell _ _ _ _ hne)).trans ((World.cell?_of_block (Below.heap_setCell _ _ _ _ hne)).trans (World.cell?_of_block (Below.heap_setCell _ _ _ _ hne)))
theorem Blk.grown {w w' : World} {g : Nat} {t : TypeId} {cs : Array Value} {row : Option Nat} (h : Blk w g t cs) (hb : w.grownBy w' row) (hg : row ≠ some g) : Blk w' g t cs := (hb.block g h.lt (fun e => hg e.symm)).trans h
set_option maxRecDepth 20000 in
set_option maxHeartbeats 2000000 in
theorem rparse_any (A : Option Addr) (c : Nat) (l : List Int) (w : World) (hs : Ints .u8 w w.heap.size A l) (hby : Byte l) (hc : l.length ≤ c) (hcm : c ≤ 9223372036854775807) :
    Calls Try.prog 21 #[.slice A l.length c] w (ParseOut l w) := by
  have R := Blk.new (w := w) (t := 36) (cs := #[.int .i64 0, .int .i64 0, .slice none 0 0])
  have bW := lat_alloc (Below.refl w.heap.size w) (.cells #[.int .i64 0, .int .i64 0, .slice none 0 0] 36)
  have hW := (hs.below bW).more bW.size
  have hg : w.heap.size ≤ w.heap.size := Nat.le_refl _
  go_enter Try.func21, Try.ntmps21
  by_cases h0 : l.length = 0
  · have z0 : ((l.length : Int) == 0) = true := by simp [h0]
    have hj := Lib.hid (show par l = (0, 0, [], 0, false) by rw [par, if_pos h0])
    go_wp2
    (try simp only [Exit.inBlock, Exit.then]); refine bodyPost_ret (results_cell_tmp2 rfl rfl (load_item Blk.new)) rfl ?_
    unfold ParseOut
    rw [hj.out]
    exact ⟨lat_alloc (Below.refl _ _) _, none, 0, rfl, Ints.nil_⟩
  have z0 : ((l.length : Int) == 0) = false := by simp; intro h; subst h; exact h0 rfl
  obtain ⟨b, off, rfl, hB, hcell⟩ := hs (by omega)
  have k0 : w.cell? ⟨b, off, none⟩ = some (.int .u8 (at_ l 0)) := hcell 0 (by omega)
  have x0 := hby _ (at_mem (show 0 < l.length by omega))
  by_cases h1 : at_ l 0 = 90
  · by_cases h2 : 1 < l.length
    · have k1 := hcell 1 (by omega)
      have x1 := hby _ (at_mem (show 1 < l.length by omega))
      by_cases h3 : at_ l 1 = 165
      · by_cases h6 : l.length < 6
        · have hj := Lib.hid (show par l = (0, 0, [], 0, false) by rw [par, if_neg h0, if_neg (by omega), if_pos h6])
          go_wp2
          (try simp only [Exit.inBlock, Exit.then]); refine bodyPost_ret (results_cell_tmp2 rfl rfl (load_item Blk.new)) rfl ?_
          unfold ParseOut
          rw [hj.out]
          exact ⟨lat_alloc (Below.refl _ _) _, none, 0, rfl, Ints.nil_⟩
        · have k4 := hcell 4 (by omega)
          have k5 := hcell 5 (by omega)
          have x4 := hby _ (at_mem (show 4 < l.length by omega))
          have x5 := hby _ (at_mem (show 5 < l.length by omega))
          obtain ⟨n, hn⟩ : ∃ n : Nat, at_ l 4 * 256 + at_ l 5 = n := ⟨(at_ l 4 * 256 + at_ l 5).toNat, by omega⟩
          have HOR := or_8 x4.1 x4.2 x5.1 x5.2
          rw [hn] at HOR
          have HP7 := Lib.hid (show 200 < (n : Int) → par l = (7, 0, [], 1, true) from fun h => by rw [par, if_neg h0, if_neg (by omega), if_neg h6, if_pos (by omega)])
          have HP8 := Lib.hid (show (n : Int) ≤ 200 → (l.length : Int) < n + 10 → par l = (0, 0, [], 0, false) from fun h h' => by rw [par, if_neg h0, if_neg (by omega), if_neg h6, if_neg (by omega), if_pos (by omega)])
          have HP9 := Lib.hid (show (n : Int) ≤ 200 → (n : Int) + 10 ≤ l.length → par l = ((jud (l.take (n + 10))).1, (jud (l.take (n + 10))).2.1, (jud (l.take (n + 10))).2.2.1, (jud (l.take (n + 10))).2.2.2, true) from fun h h' => by
            rw [par, if_neg h0, if_neg (by omega), if_neg h6, if_neg (by omega), if_neg (by omega), hn, show ((n : Int) + 10).toNat = n + 10 by omega])
          clear hn
          go_wp2_with fail
          have k4' := ((bcell bW).1 b (off + 4) hB).trans k4
          have k5' := ((bcell bW).1 b (off + 5) hB).trans k5
          generalize w.alloc (.cells #[.int .i64 0, .int .i64 0, .slice none 0 0] 36) = W at *
          go_quiet (fail)
          have R2 := Blk.below R (below_drewN (n := nq) (Below.refl _ _))
          have b2 := below_drewN (n := nq) bW
          have hI2 := (hW.below (below_drewN (n := nq) (Below.refl _ _))).more (Nat.le_refl _)
          have b2a : Below W.heap.size W (W.drewN nq) := below_drewN (n := nq) (Below.refl _ _)
          clear k0 k1 k4 k5 k4' k5' x0 x1 x4 x5 HOR R bW hW z0
          generalize W.drewN nq = W2 at *
          have r7 := R2.three
          by_cases h7 : 200 < (n : Int)
          · have hj := Lib.hid (HP7.out h7)
            go_wp2
            (try simp only [Exit.inBlock, Exit.then]); refine bodyPost_ret (results_cell_tmp2 rfl rfl (load_item (Blk.set3 R2 _ _ _))) rfl ?_
            unfold ParseOut
            rw [hj.out]
            exact ⟨below_set3 b2 hg _ _ _, none, 0, rfl, Ints.nil_⟩
          by_cases h8 : (l.length : Int) < n + 10
          · have hj := Lib.hid (HP8.out (by omega) h8)
            go_wp2
            (try simp only [Exit.inBlock, Exit.then]); refine bodyPost_ret (results_cell_tmp2 rfl rfl (load_item (Blk.set3 R2 _ _ _))) rfl ?_
            unfold ParseOut
            rw [hj.out]
            exact ⟨below_set3 b2 hg _ _ _, none, 0, rfl, Ints.nil_⟩
          have hj := HP9.out (by omega) (by omega)
          have hlt : (l.take (n + 10)).length = n + 10 := by rw [List.length_take]; omega
          have hat : ∀ i, i < n + 10 → at_ (l.take (n + 10)) i = at_ l i := fun i hi => by
            simp only [at_, List.getD_eq_getElem?_getD]; rw [List.getElem?_take_of_lt hi]
          have htl : tailS (l.take (n + 10)) = sum4 (at_ l (n + 6)) (at_ l (n + 7)) (at_ l (n + 8)) (at_ l (n + 9)) := by
            unfold tailS; rw [hlt]
            rw [hat _ (by omega), hat _ (by omega), hat _ (by omega), hat _ (by omega)]
            rfl
          have hdt : ((l.take (n + 10)).drop 2).take ((l.take (n + 10)).length - 6) = (l.drop 2).take (n + 4) := by
            rw [hlt, List.drop_take, List.take_take]; congr 1; omega
          have hdp : ((l.take (n + 10)).drop 6).take ((l.take (n + 10)).length - 10) = (l.drop 6).take n := by
            rw [hlt, List.drop_take, List.take_take]; congr 1; omega
          have hjud : jud (l.take (n + 10)) = if un (upd 0#32 ((l.drop 2).take (n + 4))) ≠ sum4 (at_ l (n + 6)) (at_ l (n + 7)) (at_ l (n + 8)) (at_ l (n + 9)) then (4, 0, [], 1)
              else if at_ l 2 ≠ 1 then (3, 0, [], ((n + 10 : Nat) : Int)) else if at_ l 3 < 1 ∨ 22 < at_ l 3 then (5, 0, [], ((n + 10 : Nat) : Int)) else (0, at_ l 3, (l.drop 6).take n, ((n + 10 : Nat) : Int)) := by
            rw [jud, hdt, htl, hdp, hlt, hat 2 (by omega), hat 3 (by omega)]
          rw [hjud] at hj
          have hl2 : ((l.drop 2).take (n + 4)).length = n + 4 := by rw [List.length_take, List.length_drop]; omega
          have hB2 : b < W2.heap.size := by have := R2.lt; omega
          have cellW : ∀ i, i < l.length → W2.cell? ⟨b, off + i, none⟩ = some (.int .u8 (at_ l i)) := fun i hi => ((bcell b2).1 b (off + i) hB).trans (hcell i hi)
          have m6 := cellW (n + 6) (by omega)
          have m7 := cellW (n + 7) (by omega)
          have m8 := cellW (n + 8) (by omega)
          have m9 := cellW (n + 9) (by omega)
          have m2 := cellW 2 (by omega)
          have m3 := cellW 3 (by omega)
          have y6 := hby _ (at_mem (show n + 6 < l.length by omega))
          have y7 := hby _ (at_mem (show n + 7 < l.length by omega))
          have y8 := hby _ (at_mem (show n + 8 < l.length by omega))
          have y9 := hby _ (at_mem (show n + 9 < l.length by omega))
          have y2 := hby _ (at_mem (show 2 < l.length by omega))
          have y3 := hby _ (at_mem (show 3 < l.length by omega))
          have HO4 := or_four y6 y7 y8 y9
          generalize sum4 (at_ l (n + 6)) (at_ l (n + 7)) (at_ l (n + 8)) (at_ l (n + 9)) = S at *
          have hHS := rsum_any (some ⟨b, off + 2, none⟩) (c - 2) ((l.drop 2).take (n + 4))
          have hbs : Byte ((l.drop 2).take (n + 4)) := (hby.drop 2).take _
          have HI6 := Lib.hid (((hI2.drop 6).take n))
          have HIS := Lib.hid ((hI2.drop 2).take (n + 4))
          have HJ := Lib.hid hj
          have HL2 := Lib.hid hl2
          have HHS := Lib.hid hHS
          clear hj hl2 hjud hdp hdt htl hat hlt cellW hcell hHS hs hI2
          go_wp2_with fail
          go_quiet (fail)
          have R3 := Blk.below R2 (below_drewN (n := nq) (Below.refl _ _))
          have b3 := below_drewN (n := nq) b2
          have hB3 : b < (W2.drewN nq).heap.size := hB2
          have HI6' : Ints .u8 (W2.drewN nq) (W2.drewN nq).heap.size (some ⟨b, off + 6, none⟩) ((l.drop 6).take n) := (HI6.out.below (below_drewN (n := nq) (Below.refl _ _))).more b2a.size
          have HIS' : Ints .u8 (W2.drewN nq) (W2.drewN nq).heap.size (some ⟨b, off + 2, none⟩) ((l.drop 2).take (n + 4)) := (HIS.out.below (below_drewN (n := nq) (Below.refl _ _))).more b2a.size
          have m2' : (W2.drewN nq).cell? ⟨b, off + 2, none⟩ = some (.int .u8 (at_ l 2)) := m2
          have m3' : (W2.drewN nq).cell? ⟨b, off + 3, none⟩ = some (.int .u8 (at_ l 3)) := m3
          have f3' := (bcell b3).2 b 0 hB
          clear R2 b2 m2 m3 m6 m7 m8 m9 y6 y7 y8 y9 HO4 HI6 HIS r7 hB2 b2a
          generalize W2.drewN nq = W3 at *
          have r7 := R3.three
          have HS := HHS.out W3 HIS' hbs (by rw [HL2.out]; omega)
          rw [HL2.out] at HS
          have HS' := Lib.hid HS
          clear HS
          have c26 : ¬ c = 6 := by omega
          have c22 : ¬ c = 2 := by omega
          generalize hU : un (upd 0#32 ((l.drop 2).take (n + 4))) = U at *
          have HIH := Lib.hid HI6'
          clear HI6'
          by_cases j0 : U = S
          · have q0 : (S == U) = true := by simp [j0]
            by_cases j1 : at_ l 2 = 1
            · have q1 : (at_ l 2 == 1) = true := by simpa using j1
              by_cases j2 : at_ l 3 < 1 ∨ 22 < at_ l 3
              · have hj := HJ.out
                rw [if_neg (by simpa using j0), if_neg (by simpa using j1), if_pos j2] at hj
                have HJ' := Lib.hid hj
                clear hj j0 j1 HJ hU
                rcases j2 with j2 | j2
                all_goals
                  go_wp2_with (refine HS'.out.mono ?_; rintro e w' ⟨rfl, hw'⟩; subst hw')
                  (try simp only [Exit.inBlock, Exit.then]); refine bodyPost_ret (results_cell_tmp2 rfl rfl (load_item (Blk.set3 R3 _ _ _))) rfl ?_
                  unfold ParseOut
                  rw [HJ'.out]
                  exact ⟨below_set3 b3 hg _ _ _, none, 0, rfl, Ints.nil_⟩
              · have hj := HJ.out
                rw [if_neg (by simpa using j0), if_neg (by simpa using j1), if_neg j2] at hj
                have HJ' := Lib.hid hj
                have j3 : 1 ≤ at_ l 3 := by omega
                have j4 : at_ l 3 ≤ 22 := by omega
                clear hj j0 j1 j2 HJ hU
                go_wp2_with (refine HS'.out.mono ?_; rintro e w' ⟨rfl, hw'⟩; subst hw')
                obtain ⟨rc0, rc1, rc2, rf0, rf1, rf2⟩ := r7
                clear HHS HS' HP7 HP8 HP9 f3'
                have sn0 : (6 : Int) ≤ (n : Int) + 6 := by omega
                have sn1 : (n : Int) + 6 ≤ c := by omega
                have sn2 : IntKind.i64.wrap ((n : Int) + 6) = n + 6 := by rw [IntKind.wrap_i64]; omega
                have sn3 : IntKind.i64.wrap ((n : Int) + 10) = n + 10 := by rw [IntKind.wrap_i64]; omega
                have sn6 : IntKind.i64.wrap (at_ l 3) = at_ l 3 := by rw [IntKind.wrap_i64]; omega
                have hbne : b ≠ w.heap.size := by omega
                have sn4 : (0 : Int) ≤ (n : Int) + 6 := by omega
                have sn5 : ((n : Int) + 6).toNat = n + 6 := by omega
                have hnl : ((l.drop 6).take n).length = n := by rw [List.length_take, List.length_drop]; omega
                have HNL := Lib.hid hnl
                clear hnl
                go_region_held3 (fun w' => w'.cell? ⟨b, off + 3, none⟩ = some (.int .u8 (at_ l 3)))
                  (first | go_keep | exact cell_far3 z3 hbne)
                  ((refine step_append_ints (by rfl) (.const (.slice none 0 0)) (.tmp 123) 22 (by rfl) W3.heap.size 5 .u8 1 Try.underlying22 byte_info (.slice none 0 0) [] (by rfl) (Own.nil_ _ _ _ _) (some ⟨b, off + 6, none⟩) (c - 6) ((l.drop 6).take n) n HNL.out ?a1 ?a2 ?a3 (by omega) ?a4 ?a5; (case a1 => first | rfl | (trace_state; sorry)); (case a2 => first | exact HIH.out | (trace "a2"; trace_state; sorry)); (case a3 => first | (rw [HNL.out]; simp; omega) | (trace "a3"; trace_state; sorry)); (case a4 => first | exact Nat.le_refl _ | (trace "a4"; trace_state; sorry)); intro v5 w5 O5 g5 a5; have R5 : Blk w5 w.heap.size 36 #[.int .i64 0, .int .i64 0, .slice none 0 0] := (by { refine Blk.grown ?_ g5 ?_; exact R3; simp [Value.ownBlock] }); have b5 : Below w.heap.size w w5 := (by { refine Below.grown ?_ g5 ?_ ?_; exact b3.drew; exact b3.drew.size; simp [Value.ownBlock] }); have z3 : w5.cell? ⟨b, off + 3, none⟩ = some (.int .u8 (at_ l 3)) := (by { refine g5.cell ?_ ?_; exact m3'; simp [Value.ownBlock] }); obtain ⟨t0, t1, t2, tf0, tf1, tf2⟩ := R5.three; obtain ⟨A5, c5, hv5, hI5⟩ := own_open O5 HNL.out; subst hv5))
                go_wp2
                (try simp only [Exit.inBlock, Exit.then]); refine bodyPost_ret (results_cell_tmp2 rfl rfl (load_item (Blk.set3 R5 _ _ _))) rfl ?_
                unfold ParseOut
                rw [HJ'.out]
                have hwl : w.heap.size < W3.heap.size := R3.lt
                have hfar : ∀ a, A5 = some a → w.heap.size ≠ a.block := fun a ha => by
                  subst ha
                  rcases a5 with a5 | a5
                  · simp [Value.ownBlock] at a5
                  · have e1 : a.block = W3.heap.size := by simpa [Value.ownBlock] using a5
                    omega
                exact ⟨below_set3 b5 hg _ _ _, A5, c5, by rw [HNL.out]; rfl, by simpa [World.setCell] using ((hI5.far (p := ⟨w.heap.size, 0, none⟩) hfar (.int .i64 0)).far (p := ⟨w.heap.size, 1, none⟩) hfar (.int .i64 (at_ l 3))).far (p := ⟨w.heap.size, 2, none⟩) hfar (.slice A5 n c5)⟩
            · have q1 : (at_ l 2 == 1) = false := by simpa using j1
              have hj := HJ.out
              rw [if_neg (by simpa using j0), if_pos j1] at hj
              have HJ' := Lib.hid hj
              clear hj j0 j1 HJ hU
              go_wp2_with (refine HS'.out.mono ?_; rintro e w' ⟨rfl, hw'⟩; subst hw')
              (try simp only [Exit.inBlock, Exit.then]); refine bodyPost_ret (results_cell_tmp2 rfl rfl (load_item (Blk.set3 R3 _ _ _))) rfl ?_
              unfold ParseOut
              rw [HJ'.out]
              exact ⟨below_set3 b3 hg _ _ _, none, 0, rfl, Ints.nil_⟩
          · have q0 : (S == U) = false := by simpa using fun h => j0 h.symm
            have hj := HJ.out
            rw [if_pos (by simpa using j0)] at hj
            have HJ' := Lib.hid hj
            clear hj j0 HJ hU
            go_wp2_with (refine HS'.out.mono ?_; rintro e w' ⟨rfl, hw'⟩; subst hw')
            (try simp only [Exit.inBlock, Exit.then]); refine bodyPost_ret (results_cell_tmp2 rfl rfl (load_item (Blk.set3 R3 _ _ _))) rfl ?_
            unfold ParseOut
            rw [HJ'.out]
            exact ⟨below_set3 b3 hg _ _ _, none, 0, rfl, Ints.nil_⟩
      · have q3 : (at_ l 1 == 165) = false := by simpa using h3
        have hj := Lib.hid (show par l = (2, 0, [], 1, true) by rw [par, if_neg h0, if_pos (.inr ⟨h2, h3⟩)])
        go_wp2
        (try simp only [Exit.inBlock, Exit.then]); refine bodyPost_ret (results_cell_tmp2 rfl rfl (load_item Blk.new)) rfl ?_
        unfold ParseOut
        rw [hj.out]
        exact ⟨lat_alloc (Below.refl _ _) _, none, 0, rfl, Ints.nil_⟩
    · have hj := Lib.hid (show par l = (0, 0, [], 0, false) by rw [par, if_neg h0, if_neg (by omega), if_pos (by omega)])
      go_wp2
      (try simp only [Exit.inBlock, Exit.then]); refine bodyPost_ret (results_cell_tmp2 rfl rfl (load_item Blk.new)) rfl ?_
      unfold ParseOut
      rw [hj.out]
      exact ⟨lat_alloc (Below.refl _ _) _, none, 0, rfl, Ints.nil_⟩
  · have q1 : (at_ l 0 == 90) = false := by simpa using h1
    have hj := Lib.hid (show par l = (2, 0, [], 1, true) by rw [par, if_neg h0, if_pos (.inl h1)])
    go_wp2
    (try simp only [Exit.inBlock, Exit.then]); refine bodyPost_ret (results_cell_tmp2 rfl rfl (load_item Blk.new)) rfl ?_
    unfold ParseOut
    rw [hj.out]
    exact ⟨lat_alloc (Below.refl _ _) _, none, 0, rfl, Ints.nil_⟩
end Go.Proofs.Ytahemaondkjpiaa
