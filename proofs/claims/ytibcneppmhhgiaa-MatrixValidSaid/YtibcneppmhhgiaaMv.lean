/-
  The law MatrixValid answers true: its walk. Conditions: none.
-/
import Derived.Test.YtibcneppmhhgiaaAw
import Derived.Test.YtibcneppmhhgiaaRv
import Derived.StillTailTactics
namespace Go.Proofs.Ytibcneppmhhgiaa
open Go.ChangeShapes Go.WideShapes Go.RowKit
set_option linter.unusedVariables false

theorem mod_n (a : Int) (m : Nat) (h : 0 < m) : ∃ i : Nat, modI a m = i ∧ i < m := by
  have := modI_bd a m (by omega)
  exact ⟨(modI a m).toNat, by omega, by omega⟩
theorem mod_s {a : Int} {m : Int} {i : Nat} (hi : modI a m = i) (h0 : 0 < m) (h1 : m ≤ 4294967296) (ha : -9223372036854775808 ≤ a) (hb : a ≤ 9223372036854775807) (w : World) : Calls Try.prog 10 #[.int .i64 a, .int .i64 m] w fun e w' => e = .returned (.int .i64 i) ∧ w' = w := by
  have := mod_q a m h0 h1 ha hb w
  rw [hi] at this
  exact this
theorem three_rows {W W3 : World} {A0 : Option Addr} {c0 gc gb cb i : Nat} {X : Int} {raw cs : List Int} (h20 : raw.length ≤ 20) (h8 : cs.length ≤ 8) (hb3 : Below W.heap.size W W3) (hir : Ints .i64 W W.heap.size A0 raw) (hi : Ints .i64 W W.heap.size (some ⟨gc, 0, none⟩) cs)
    (hown : Own .i64 3 W3 W.heap.size (.slice (some ⟨gb, 0, none⟩) cs.length cb) (cs.set i X)) :
    Below W.heap.size W (W3.alloc (.cells #[.slice A0 raw.length c0, .slice (some ⟨gc, 0, none⟩) cs.length cs.length, .slice (some ⟨gb, 0, none⟩) cs.length cb] 22)) ∧
    ∀ k : Nat, k < 3 → ∃ (A : Option Addr) (m : List Int) (c : Nat), (W3.alloc (.cells #[.slice A0 raw.length c0, .slice (some ⟨gc, 0, none⟩) cs.length cs.length, .slice (some ⟨gb, 0, none⟩) cs.length cb] 22)).cell? ⟨W3.heap.size, k, none⟩ = some (.slice A m.length c) ∧
      W3.heap.size < (W3.alloc (.cells #[.slice A0 raw.length c0, .slice (some ⟨gc, 0, none⟩) cs.length cs.length, .slice (some ⟨gb, 0, none⟩) cs.length cb] 22)).heap.size ∧
      Ints .i64 (W3.alloc (.cells #[.slice A0 raw.length c0, .slice (some ⟨gc, 0, none⟩) cs.length cs.length, .slice (some ⟨gb, 0, none⟩) cs.length cb] 22)) (W3.alloc (.cells #[.slice A0 raw.length c0, .slice (some ⟨gc, 0, none⟩) cs.length cs.length, .slice (some ⟨gb, 0, none⟩) cs.length cb] 22)).heap.size A m ∧ m.length ≤ 20 := by
  have hB := Blk.new (w := W3) (t := 22) (cs := #[.slice A0 raw.length c0, .slice (some ⟨gc, 0, none⟩) cs.length cs.length, .slice (some ⟨gb, 0, none⟩) cs.length cb])
  have hb4 := hb3.alloc hb3.size (.cells #[.slice A0 raw.length c0, .slice (some ⟨gc, 0, none⟩) cs.length cs.length, .slice (some ⟨gb, 0, none⟩) cs.length cb] 22)
  have ho := hown.alloc (.cells #[.slice A0 raw.length c0, .slice (some ⟨gc, 0, none⟩) cs.length cs.length, .slice (some ⟨gb, 0, none⟩) cs.length cb] 22)
  refine ⟨hb4, fun k hk => ?_⟩
  have hlt := Blk.lt hB
  have hcell := Blk.cell hB
  have hsz := hb4.size
  generalize W3.alloc (.cells #[.slice A0 raw.length c0, .slice (some ⟨gc, 0, none⟩) cs.length cs.length, .slice (some ⟨gb, 0, none⟩) cs.length cb] 22) = W4 at *
  match k, hk with
  | 0, _ => exact ⟨A0, raw, c0, hcell 0, hlt, (hir.below hb4).more hsz, h20⟩
  | 1, _ => exact ⟨_, cs, cs.length, hcell 1, hlt, (hi.below hb4).more hsz, by omega⟩
  | 2, _ =>
    obtain ⟨A', c', e, _, _, h⟩ := ho.ints
    injection e with e1 _ _
    subst e1
    exact ⟨_, cs.set i X, cb, by rw [List.length_set]; exact hcell 2, hlt, h, by rw [List.length_set]; omega⟩
theorem mvalid_any (A0 : Option Addr) (c0 : Nat) (raw : List Int) (A : Option Addr) (c : Nat) (l : List Int) (p q : Int) (w : World) (hs0 : Ints .i64 w w.heap.size A0 raw) (hn0 : Nums raw) (hl0 : raw.length ≤ 9223372036854775807) (hs : Ints .i64 w w.heap.size A l) (hn : Nums l) (hl : l.length ≤ 9223372036854775807) (p0 : -9223372036854775808 ≤ p) (p1 : p ≤ 9223372036854775807) (q0 : -9223372036854775808 ≤ q) (q1 : q ≤ 9223372036854775807) :
    Calls Try.prog 3 #[.slice A0 raw.length c0, .slice A l.length c, .int .i64 p, .int .i64 q] w fun e w' => e = .returned (.bool true) ∧ Below w.heap.size w w' := by
  go_enter Try.func3, Try.ntmps3
  by_cases h20 : 20 < raw.length
  · go_wp2_with fail
    refine (awake_any _).mono ?_; rintro e w' ⟨rfl, hw⟩
    go_wp2
    go_ret
    exact ⟨rfl, hw⟩
  go_wp2_with fail
  refine (new_deck A l c w).mono ?_; rintro e w1 ⟨rfl, hd1, hb1, _⟩
  go_wp2_with fail
  refine (rows_drawn A c l w w1 hs hn hl hd1 hb1).mono ?_; rintro e W ⟨n, gc, cs, ⟨h1, h8⟩, rfl, hr⟩
  have hi := hr.ints
  have hbl := hr.below
  have hok := Lib.hid hr.ok
  obtain rfl := hr.ok.len
  have hir := (hs0.below hr.below).more hr.below.size
  clear hr hd1 hb1
  go_wp2_with (at_builtin; refine wpList_append_ints rfl (.const (.slice none 0 0)) (.tmp 22) _ rfl W.heap.size 3 .i64 8 Try.underlying22 int_info _ [] rfl (Own.nil_ _ _ _ _) _ _ cs _ rfl rfl hi (by simp; omega) (by omega) (by omega) ?_; intro v1 W1 hown1 hg1 hat1)
  have hb1 : Below W.heap.size W W1 := (Below.refl W.heap.size W).grown hg1 (Nat.le_refl _) (fun k hk => by cases hk)
  clear hg1 hat1
  rw [List.nil_append] at hown1
  obtain ⟨gb, cb, rfl, hgb1, hgb2⟩ := hown1.form (by omega)
  obtain ⟨i, hmi, hic⟩ := mod_n p cs.length (by omega)
  obtain ⟨j, hmj, hj⟩ := mod_n q 10 (by omega)
  obtain ⟨i9, hmi9, hi9⟩ := mod_n p 9 (by omega)
  obtain ⟨j9, hmj9, hj9⟩ := mod_n q 9 (by omega)
  obtain ⟨d0, f0⟩ := hown1.cell (i := i) hic
  go_wp2_with fail
  refine wp_region_still_tail 13 (by kernel_rfl) (by kernel_rfl) ?_
  simp only [List.take_succ_cons, List.take_zero, List.drop_succ_cons, List.drop_zero]
  change wpStill Try.prog _ (W1.drewN 1) (fun a' => wpList _ _ _ _ a' (W1.drewN 1)) _ _
  have hown2 := hown1.drewN (n := 1)
  have hb2 : Below W.heap.size W (W1.drewN 1) := below_drewN hb1
  have d2 : (W1.drewN 1).cell? ⟨gb, i, none⟩ = some (.int .i64 (at_ cs i)) := d0
  have f2 : (W1.drewN 1).frozen? ⟨gb, i, none⟩ = false := f0
  have hz2 : gb < (W1.drewN 1).heap.size := hgb2
  generalize W1.drewN 1 = W2 at *
  have HS := Lib.hid (fun x => hown2.set (i := i) hic x)
  clear hown1 hown2 d0 f0 hb1 hgb2
  iterate 4 still_step
  still_call (mod_s hmi (by omega) (by omega) p0 p1 _)
  iterate 3 still_step
  still_call (mod_s hmj (by omega) (by omega) q0 q1 _)
  iterate 4 still_step
  refine wpStill_nil ?_
  go_wp2_with fail
  generalize bits .xor .i64 (at_ cs i) (wrap64 (2 ^ min j 64)) = X at *
  have hown3 := HS.out X
  have hb3 : Below W.heap.size W (W2.setCell ⟨gb, i, none⟩ (.int .i64 X)) := hb2.setCell hgb1 _
  have hsz3 : (W2.setCell ⟨gb, i, none⟩ (.int .i64 X)).heap.size = W2.heap.size := by simp [World.setCell]
  generalize W2.setCell ⟨gb, i, none⟩ (.int .i64 X) = W3 at *
  obtain ⟨hb4, hrow⟩ := three_rows (W := W) (W3 := W3) (A0 := A0) (c0 := c0) (gc := gc) (gb := gb) (cb := cb) (by omega) h8 hb3 hir hi hown3
  generalize W3.alloc (.cells #[.slice A0 raw.length c0, .slice (some ⟨gc, 0, none⟩) cs.length cs.length, .slice (some ⟨gb, 0, none⟩) cs.length cb] 22) = W4 at *
  rw [hsz3] at hrow
  clear hown3 hb3 hb2 HS hsz3 hz2
  generalize W2.heap.size = g4 at *
  go_loopw [42] (fun v Wr => ∃ k : Nat, k ≤ 3 ∧ v = .int .i64 k ∧ Below W4.heap.size W4 Wr) (fun v _ => 3 - (intOf v).toNat)
  case atStart => exact ⟨0, by omega, rfl, Below.refl _ _⟩
  case round =>
    obtain ⟨k, hk, rfl, hbr⟩ := hrel
    by_cases hlt : k < 3
    · obtain ⟨Ak, m, ck, hcl, hlk, hI, hm⟩ := hrow k hlt
      have hcell : wr.cell? ⟨g4, k, none⟩ = some (.slice Ak m.length ck) := by rw [← hcl]; exact World.cell?_of_block (hbr.block _ hlk)
      have hI' := hI.below hbr
      go_wp2_with fail
      refine (valid_any Ak m ck _ _ hI').mono ?_; rintro e w' ⟨rfl, rfl⟩
      go_wp2_with fail
      refine (rvalid_any Ak m ck _ _ hI').mono ?_; rintro e w' ⟨rfl, rfl⟩
      go_wp2_with fail
      refine (mod_s hmi9 (by omega) (by omega) p0 p1 _).mono ?_; rintro e w' ⟨rfl, rfl⟩
      go_wp2_with fail
      refine (mod_s hmj9 (by omega) (by omega) q0 q1 _).mono ?_; rintro e w' ⟨rfl, rfl⟩
      go_wp2_with fail
      have hB5 := Blk.new (w := w') (t := 31) (cs := #[.int .i64 p, .int .i64 q, .int .i64 i9, .int .i64 j9])
      have hb5 : Below w'.heap.size w' (w'.alloc (.cells #[.int .i64 p, .int .i64 q, .int .i64 i9, .int .i64 j9] 31)) := lat_alloc (Below.refl _ _) _
      have hI5 := (hI'.below (hb5.mono hbr.size)).more (Nat.le_trans hbr.size hb5.size)
      have hbr5 := hbr.trans (hb5.mono hbr.size)
      generalize w'.alloc (.cells #[.int .i64 p, .int .i64 q, .int .i64 i9, .int .i64 j9] 31) = W5 at *
      clear hb5 hI' hcell hbr hI
      generalize w'.heap.size = g5 at *
      go_loopw [61] (fun v Wr => ∃ r : Nat, r ≤ 2 ∧ v = .int .i64 r ∧ Below W5.heap.size W5 Wr) (fun v _ => 2 - (intOf v).toNat)
      case atStart => exact ⟨0, by omega, rfl, Below.refl _ _⟩
      case round =>
        obtain ⟨r, hr, rfl, hbi⟩ := hrel
        have hB6 := hB5.below hbi
        have hI6 := hI5.below hbi
        have k0 := Blk.cell hB6 0
        have k1 := Blk.cell hB6 1
        have k2 := Blk.cell hB6 2
        have k3 := Blk.cell hB6 3
        have hr3 : r = 0 ∨ r = 1 ∨ r = 2 := by omega
        rcases hr3 with rfl | rfl | rfl
        · go_wp2_with fail
          have hB7 := Blk.new (w := wr) (t := 31) (cs := #[.int .i64 p, .int .i64 q])
          have hb7 : Below wr.heap.size wr (wr.alloc (.cells #[.int .i64 p, .int .i64 q] 31)) := lat_alloc (Below.refl _ _) _
          have hI7 := hI6.below (hb7.mono hbi.size)
          have hb57 := hbi.trans (hb7.mono hbi.size)
          generalize wr.alloc (.cells #[.int .i64 p, .int .i64 q] 31) = W7 at *
          generalize wr.heap.size = g7 at *
          clear hb7 hbi hI6 hB6 k0 k1 k2 k3
          have k0 := Blk.cell hB7 0
          have k1 := Blk.cell hB7 1
          have CA := Lib.hid (fun n => conflict_any Ak m ck _ p q (W7.drewN n) (hI7.below (below_drewN (Below.refl _ _))) (by omega))
          have CB := Lib.hid (fun n => rconflict_any Ak m ck _ p q (W7.drewN n) (hI7.below (below_drewN (Below.refl _ _))) (by omega))
          generalize confB m p q = bb at *
          go_quiet (first | (go_at_call 13; exact Calls.quiet_of_same ((CA.out _).mono fun _ _ h => ⟨h.1, h.2.symm⟩)) | (go_at_call 14; exact Calls.quiet_of_same ((CB.out _).mono fun _ _ h => ⟨h.1, h.2.symm⟩)))
          go_wp2
          go_roundw
          case rel => exact ⟨0 + 1, by omega, rfl, below_drewN hb57⟩
          case measure => simp [intOf]
        · go_wp2_with fail
          have hB7 := Blk.new (w := wr) (t := 31) (cs := #[.int .i64 i9, .int .i64 j9])
          have hb7 : Below wr.heap.size wr (wr.alloc (.cells #[.int .i64 i9, .int .i64 j9] 31)) := lat_alloc (Below.refl _ _) _
          have hI7 := hI6.below (hb7.mono hbi.size)
          have hb57 := hbi.trans (hb7.mono hbi.size)
          generalize wr.alloc (.cells #[.int .i64 i9, .int .i64 j9] 31) = W7 at *
          generalize wr.heap.size = g7 at *
          clear hb7 hbi hI6 hB6 k0 k1 k2 k3
          have k0 := Blk.cell hB7 0
          have k1 := Blk.cell hB7 1
          have CA := Lib.hid (fun n => conflict_any Ak m ck _ i9 j9 (W7.drewN n) (hI7.below (below_drewN (Below.refl _ _))) (by omega))
          have CB := Lib.hid (fun n => rconflict_any Ak m ck _ i9 j9 (W7.drewN n) (hI7.below (below_drewN (Below.refl _ _))) (by omega))
          generalize confB m i9 j9 = bb at *
          go_quiet (first | (go_at_call 13; exact Calls.quiet_of_same ((CA.out _).mono fun _ _ h => ⟨h.1, h.2.symm⟩)) | (go_at_call 14; exact Calls.quiet_of_same ((CB.out _).mono fun _ _ h => ⟨h.1, h.2.symm⟩)))
          go_wp2
          go_roundw
          case rel => exact ⟨1 + 1, by omega, rfl, below_drewN hb57⟩
          case measure => simp [intOf]
        · go_wp2
          go_roundw
          case rel => exact ⟨k + 1, by omega, by go_num, hbr5.trans (hbi.mono hbr5.size)⟩
          case measure => simp [intOf]; omega
    · have hI := (hi.below hb4).below (hbr.mono hb4.size)
      have V := valid6_t (hok.out.valid h1 h8)
      go_wp2_with fail
      refine (valid_any _ cs _ _ _ hI).mono ?_; rw [V]; rintro e w' ⟨rfl, rfl⟩
      go_wp2_with fail
      refine (awake_any _).mono ?_; rintro e w' ⟨rfl, hw⟩
      go_wp2
      go_ret
      exact ⟨rfl, (hbl.trans (hb4.mono hbl.size)).trans ((hbr.mono (Nat.le_trans hbl.size hb4.size)).trans (hw.mono (Nat.le_trans (Nat.le_trans hbl.size hb4.size) hbr.size)))⟩
end Go.Proofs.Ytibcneppmhhgiaa
