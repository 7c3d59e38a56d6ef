/-
  The bytes of the one view that the sanity check of the laws writes. Conditions: none.
-/
import Derived.Test.YtmgifmdpjlefcaaVo
namespace Go.Proofs.Ytmgifmdpjlefcaa
open Go.ChangeShapes Go.WideShapes Go.ChangeAt Go.RowKit
set_option linter.unusedVariables false

theorem byte_info : (Try.prog.info? 5).map (fun i => (i.zero, i.size, i.bytes)) = some (some (.int .u8 0), 1, 1) := by kernel_rfl
theorem ints_three {k : IntKind} {w : World} {T : TypeId} {x y z : Int} {n : Nat} (h : n = w.heap.size) : Ints k (w.alloc (.cells #[.int k x, .int k y, .int k z] T)) (w.alloc (.cells #[.int k x, .int k y, .int k z] T)).heap.size (some ⟨n, 0, none⟩) [x, y, z] := by
  subst h
  exact ints_new fun i hi => by
    have : i = 0 ∨ i = 1 ∨ i = 2 := by simp at hi; omega
    rcases this with rfl | rfl | rfl <;> rfl
set_option maxRecDepth 20000 in
set_option maxHeartbeats 2000000 in
theorem bytes_one (gv g1 g2 : Nat) (w : World) (BV : Blk w gv 40 #[.bool false, .bool true, .slice (some ⟨g1, 0, none⟩) 1 1, .slice (some ⟨g2, 0, none⟩) 1 1]) (B1 : Blk w g1 3 #[.int .i64 1]) (B2 : Blk w g2 3 #[.int .i64 4]) :
    Calls Try.prog 16 #[.slice (some ⟨gv, 0, none⟩) 1 1] w fun e w' => Below w.heap.size w w' ∧ ∃ (A : Option Addr) (c : Nat), e = .returned (.slice A 4 c) ∧ Ints .u8 w' w'.heap.size A [2, 0, 1, 4] := by
  go_enter Try.func16, Try.ntmps16
  go_wp2_with fail
  go_loopw [3, 14] (fun s3 v wr => ∃ (i : Nat) (vv : Value), i ≤ 1 ∧ s3 = vv ∧ v = .int .i64 i ∧ Below w.heap.size w wr ∧ Own .u8 5 wr w.heap.size vv (if i = 0 then [] else [2, 0, 1, 4])) (fun _ v _ => 1 - (intOf v).toNat)
  case atStart => exact ⟨0, _, by omega, rfl, rfl, Below.refl _ _, Own.nil_ _ _ _ _⟩
  case round =>
    obtain ⟨i, v, hi, rfl, rfl, hbr, hown⟩ := hrel
    by_cases hlt : i = 0
    · subst hlt
      rw [if_pos rfl] at hown
      have k0 := (BV.below hbr).at 0 rfl
      have k1 := (BV.below hbr).at 1 rfl
      have k2 := (BV.below hbr).at 2 rfl
      have k3 := (BV.below hbr).at 3 rfl
      have X := Blk.new (w := wr) (t := 40) (cs := #[.bool false, .bool true, .slice (some ⟨g1, 0, none⟩) 1 1, .slice (some ⟨g2, 0, none⟩) 1 1])
      have hbx := lat_alloc (Below.refl wr.heap.size wr) (.cells #[.bool false, .bool true, .slice (some ⟨g1, 0, none⟩) 1 1, .slice (some ⟨g2, 0, none⟩) 1 1] 40)
      go_wp2_with fail
      have B15 := (B1.below hbr).below hbx
      have B25 := (B2.below hbr).below hbx
      have hown5 := hown.below hbx
      have hne : ∀ k, u3.ownBlock = some k → k < wr.heap.size := fun k hk => (hown.lt hk).2
      have hb5 := hbr.trans (hbx.mono hbr.size)
      clear k0 k1 k2 k3 hown hbx hbr
      generalize wr.alloc (.cells #[.bool false, .bool true, .slice (some ⟨g1, 0, none⟩) 1 1, .slice (some ⟨g2, 0, none⟩) 1 1] 40) = W5 at *
      generalize wr.heap.size = gx at *
      go_loopw [7, 29] (fun s7 v wq => ∃ j : Nat, j ≤ 1 ∧ s7 = .int .i64 (if j = 0 then 0 else 1) ∧ v = .int .i64 j ∧ wq = W5) (fun _ v _ => 1 - (intOf v).toNat)
      case atStart => exact ⟨0, by omega, rfl, rfl, rfl⟩
      case round =>
        obtain ⟨j, hj, rfl, rfl, rfl⟩ := hrel
        by_cases hlj : j = 0
        · subst hlj
          have q0 := B15.at 0 rfl
          go_wp2
          go_roundw
          case rel => exact ⟨1, by omega, rfl, by go_num, by first | rfl | trivial⟩
          case measure => simp [intOf]
        · obtain rfl : j = 1 := by omega
          have hw5 := hb5.size
          go_wp2_with (at_builtin; refine wpList_append_ints rfl (.tmp 41) (.tmp 49) _ rfl w.heap.size 5 .u8 1 Try.underlying44 byte_info _ [] rfl (hown5.alloc _) _ 3 [2, 0, 1] 3 rfl rfl (ints_three rfl) (by decide) (by omega) (by rw [heap_size]; omega) ?_; intro v3 w3 hown3 hg3 hat3; have bF3 : Below w.heap.size w w3 := ((hb5).alloc hb5.size _).grown hg3 ((hb5).alloc hb5.size _).size (fun k hk => (hown5.lt hk).1); have x3 := ((X.alloc (.cells #[.int .u8 2, .int .u8 0, .int .u8 1] 5)).grown hg3 (fun e => (by have := hne _ e; omega))).at 3 rfl)
          clear x3 hg3 hat3 hown5 X hne B15 B25
          go_loopw [3, 54] (fun s3 v wq => ∃ (j : Nat) (vv : Value), j ≤ 1 ∧ s3 = vv ∧ v = .int .i64 j ∧ Below w.heap.size w wq ∧ Own .u8 5 wq w.heap.size vv (if j = 0 then [2, 0, 1] else [2, 0, 1, 4])) (fun _ v _ => 1 - (intOf v).toNat)
          case atStart => exact ⟨0, _, by omega, rfl, rfl, bF3, hown3⟩
          case round =>
            obtain ⟨j, v4, hj, rfl, rfl, hb6, hown6⟩ := hrel
            by_cases hlj : j = 0
            · subst hlj
              rw [if_pos rfl] at hown6
              have q0 := (B2.below hb6).at 0 rfl
              have hw6 := hb6.size
              go_wp2_with (at_builtin; refine wpList_append_ints rfl (.tmp 58) (.tmp 61) _ rfl w.heap.size 5 .u8 1 Try.underlying44 byte_info _ [2, 0, 1] rfl (hown6.alloc _) _ 1 [4] 1 rfl rfl (ints_at' rfl) (by decide) (by omega) (by rw [heap_size]; omega) ?_; intro v7 w7 hown7 hg7 hat7; have bF7 : Below w.heap.size w w7 := ((hb6).alloc hb6.size _).grown hg7 ((hb6).alloc hb6.size _).size (fun k hk => (hown6.lt hk).1))
              go_roundw
              case rel => exact ⟨1, _, by omega, rfl, by go_num, bF7, hown7⟩
              case measure => simp [intOf]
            · obtain rfl : j = 1 := by omega
              rw [if_neg hlj] at hown6
              go_wp2
              go_roundw
              case rel => exact ⟨1, _, by omega, rfl, by go_num, hb6, hown6⟩
              case measure => simp [intOf]
    · obtain rfl : i = 1 := by omega
      rw [if_neg hlt] at hown
      go_wp2
      go_ret
      obtain ⟨A, c, e1, _, _, e2⟩ := hown.ints
      exact ⟨hbr, A, c, by rw [e1]; rfl, e2⟩
end Go.Proofs.Ytmgifmdpjlefcaa
