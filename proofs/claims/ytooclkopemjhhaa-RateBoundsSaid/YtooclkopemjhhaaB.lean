/-
  The law RateBounds answers true for all arguments: its walk. Conditions: none.
-/
import Derived.Test.YtooclkopemjhhaaA
import Derived.Test.YtooclkopemjhhaaG
import Derived.Test.YtooclkopemjhhaaBm
namespace Go.Proofs.Ytooclkopemjhhaa
open Go.ChangeShapes Go.WideShapes Go.RowKit
set_option linter.unusedVariables false

theorem int_info : (Try.prog.info? 3).map (fun i => (i.zero, i.size, i.bytes)) = some (some (.int .i64 0), 1, 8) := by kernel_rfl
theorem ints_one {k : IntKind} {w : World} {p : Int} {T : TypeId} : Ints k (w.alloc (.cells #[.int k p] T)) (w.alloc (.cells #[.int k p] T)).heap.size (some ⟨w.heap.size, 0, none⟩) [p] :=
  ints_new (fun i hi => by simp at hi; subst hi; rfl)
theorem ints_at {k : IntKind} {w : World} {p : Int} {T : TypeId} {n : Nat} (h : n = w.heap.size) : Ints k (w.alloc (.cells #[.int k p] T)) (w.alloc (.cells #[.int k p] T)).heap.size (some ⟨n, 0, none⟩) [p] := by
  subst h; exact ints_one
/-- The first loop's relation. -/
def Rel (w : World) (acts : List Int) (g : Nat) (R B : Int) (vt vn vi : Value) (wr : World) : Prop :=
  ∃ (k : Nat) (T : List Int) (n L : Int), k ≤ acts.length ∧ vi = .int .i64 k ∧ vn = .int .i64 n ∧ n ≤ k ∧ T.length ≤ k ∧ Taken T n L R B ∧ Blk wr g 23 #[.int .i64 L, .int .i64 R, .int .i64 B] ∧
    Own .i64 3 wr w.heap.size vt T ∧ vt.ownBlock ≠ some g ∧ Below w.heap.size w wr
theorem Own.far {k : IntKind} {e : TypeId} {w : World} {base : Nat} {v : Value} {l : List Int} (h : Own k e w base v l) {p : Addr} (hp : v.ownBlock ≠ some p.block) (u : Value) : Own k e (w.setCell p u) base v l :=
  h.block fun b hb => Below.heap_setCell w p u b (fun e => hp (e ▸ hb))
theorem Own.far3 {k : IntKind} {e : TypeId} {w : World} {base g : Nat} {v : Value} {l : List Int} (h : Own k e w base v l) (hp : v.ownBlock ≠ some g) (x y z : Value) : Own k e (((w.setCell ⟨g, 0, none⟩ x).setCell ⟨g, 1, none⟩ y).setCell ⟨g, 2, none⟩ z) base v l :=
  ((h.far (p := ⟨g, 0, none⟩) hp x).far (p := ⟨g, 1, none⟩) hp y).far (p := ⟨g, 2, none⟩) hp z
theorem Blk.grown {w w' : World} {g : Nat} {t : TypeId} {cs : Array Value} {row : Option Nat} (h : Blk w g t cs) (hb : w.grownBy w' row) (hg : row ≠ some g) : Blk w' g t cs := (hb.block g h.lt (fun e => hg e.symm)).trans h
theorem apart_new {v v3 : Value} {g n : Nat} (hat : v3.ownBlock = v.ownBlock ∨ v3.ownBlock = some n) (hne : v.ownBlock ≠ some g) (hg : g < n) : v3.ownBlock ≠ some g := fun h => by
  rcases hat with e | e
  · exact hne (e ▸ h)
  · rw [e] at h
    have := Option.some.inj h
    omega
theorem set3_size (w : World) (g : Nat) (x y z : Value) : w.heap.size = (((w.setCell ⟨g, 0, none⟩ x).setCell ⟨g, 1, none⟩ y).setCell ⟨g, 2, none⟩ z).heap.size := by
  simp [World.setCell]
theorem valid_ok {L R B : Int} (h0 : 0 ≤ L) (h1 : L ≤ B) (r0 : 0 ≤ R) (r1 : R ≤ B) (hb : B ≤ 1000) : validB L R B = true := by simp [validB, withinB]; omega
set_option maxHeartbeats 2000000 in
theorem bounds_any (A : Option Addr) (c : Nat) (acts : List Int) (r burst : Int) (w : World) (hs : Ints .i64 w w.heap.size A acts) (hn : Nums acts) (hl : acts.length ≤ 9223372036854775807)
    (r0 : -9223372036854775808 ≤ r) (r1 : r ≤ 9223372036854775807) (b0 : -9223372036854775808 ≤ burst) (b1 : burst ≤ 9223372036854775807) :
    Calls Try.prog 4 #[.slice A acts.length c, .int .i64 r, .int .i64 burst] w fun e w' => e = .returned (.bool true) ∧ Below w.heap.size w w' := by
  by_cases hsh : 200 < acts.length
  · go_enter Try.func4, Try.ntmps4
    go_wp2_with (go_at_call 15; refine (awake_any _).mono ?_; rintro e w' ⟨rfl, hw⟩)
    go_ret
    exact ⟨rfl, hw⟩
  · have hB := modI_bd burst 9 (by decide)
    have hR := modI_bd r (modI burst 9 + 1) (by omega)
    go_enter Try.func4, Try.ntmps4
    go_wp2_with fail
    refine (mod_any burst 9 (by omega) (by omega) b0 b1 _).mono ?_; rintro e w' ⟨rfl, rfl⟩
    go_wp2_with fail
    refine (mod_any r (modI burst 9 + 1) (by omega) (by omega) r0 r1 _).mono ?_; rintro e w' ⟨rfl, rfl⟩
    generalize modI burst 9 = B at *
    generalize modI r (B + 1) = R at *
    go_wp2_with fail
    refine (new_any R B _).mono ?_; rintro e w1 ⟨rfl, hb1⟩
    go_wp2_with fail
    have hg := hb1.size
    have B1 : Blk (w1.alloc (.cells #[.int .i64 B, .int .i64 R, .int .i64 B] 23)) w1.heap.size 23 #[.int .i64 B, .int .i64 R, .int .i64 B] := Blk.new
    have hW1 : Below w.heap.size w (w1.alloc (.cells #[.int .i64 B, .int .i64 R, .int .i64 B] 23)) := hb1.alloc hb1.size _
    generalize w1.alloc (.cells #[.int .i64 B, .int .i64 R, .int .i64 B] 23) = W1 at *
    generalize w1.heap.size = g at *
    go_loopw [8, 9, 32] (fun t n i wr => Rel w acts g R B t n i wr) (fun _ _ i _ => acts.length - (intOf i).toNat)
    case atStart => exact ⟨0, [], 0, B, by omega, rfl, rfl, by omega, by simp, Taken.begin hB.1, B1, Own.nil_ _ _ _ _, by simp [Value.ownBlock], hW1⟩
    case round =>
      obtain ⟨k, T, n, L, hk, rfl, rfl, hnk, hTk, hT, C1, hown, hne, hbr⟩ := hrel
      obtain ⟨c0, c1, c2, f0, f1, f2⟩ := C1.three
      have hL := And.intro hT.l0 hT.l1
      have hn0 := hT.n0
      by_cases hlt : k < acts.length
      · obtain ⟨b, off, rfl, hbB, hc⟩ := hs (by omega)
        have hck := (hbr.cell (p := ⟨b, off + k, none⟩) hbB).trans (hc k hlt)
        have hak := hn _ (at_mem hlt)
        clear hc
        by_cases h3 : modI (at_ acts k) 3 = 0
        · have HM := Lib.hid h3
          clear h3
          by_cases hx : L + R ≤ B
          · go_wp2_with fail
            refine (mod_any _ 3 (by omega) (by omega) (by omega) (by omega) _).mono ?_; rw [HM.out]; rintro e w' ⟨rfl, rfl⟩
            go_wp2_with fail
            refine (tick_any L R B (by omega) (by omega) _).mono ?_; rw [if_pos hx]; rintro e w2 ⟨rfl, hb2⟩
            have D1 := C1.below hb2
            have hbw2 := hbr.trans (hb2.mono hbr.size)
            obtain ⟨d0, d1, d2, e0, e1, e2⟩ := D1.three
            have D2 := D1.set3 (.int .i64 (L + R)) (.int .i64 R) (.int .i64 B)
            have hW2 := below_set3 hbw2 hg (.int .i64 (L + R)) (.int .i64 R) (.int .i64 B)
            have HZ := Lib.hid (set3_size w2 g (.int .i64 (L + R)) (.int .i64 R) (.int .i64 B))
            have hown2 := (hown.below hb2).far3 hne (.int .i64 (L + R)) (.int .i64 R) (.int .i64 B)
            have hTn := hT.tick (L' := (L + R)) hR.1 (by omega) (by omega) (by omega) (by omega)
            have hv := valid_ok (L := (L + R)) (R := R) (B := B) (by omega) (by omega) (by omega) (by omega) (by omega)
            clear c0 c1 c2 f0 f1 f2 C1 hown hbr hb2 hck
            go_wp2_with (at_builtin; generalize (((w2.setCell ⟨g, 0, none⟩ (.int .i64 (L + R))).setCell ⟨g, 1, none⟩ (.int .i64 R)).setCell ⟨g, 2, none⟩ (.int .i64 B)) = W2 at *; refine wpList_append_ints rfl (.tmp 41) (.tmp 43) _ rfl w.heap.size 3 .i64 8 Try.underlying32 int_info _ T rfl (hown2.alloc _) _ 1 [_] 1 rfl rfl (ints_at HZ.out) (by simp; omega) (by omega) (by rw [heap_size]; have := hW2.size; omega) ?_; intro v3 w3 hown3 hg3 hat3; have D3 := (D2.alloc (.cells #[.int .i64 n] 3)).grown hg3 hne; have hb3 : Below w.heap.size w w3 := (hW2.alloc hW2.size _).grown hg3 (hW2.alloc hW2.size _).size (fun k hk => (hown2.lt hk).1); have hne3 : v3.ownBlock ≠ some g := apart_new hat3 hne (D2.alloc (.cells #[.int .i64 n] 3)).lt; obtain ⟨k0, k1, k2, _, _, _⟩ := D3.three; clear hat3 hg3)
            refine (valid_any _ _ _ _).mono ?_; rw [hv]; rintro e w4 ⟨rfl, hb4⟩
            go_wp2
            go_roundw
            case rel => exact ⟨k + 1, T ++ [n], 0, (L + R), by omega, by go_num, rfl, by omega, by simp; omega, hTn, D3.below hb4, hown3.below hb4, hne3, hb3.trans (hb4.mono hb3.size)⟩
            case measure => simp [intOf]; omega
          · go_wp2_with fail
            refine (mod_any _ 3 (by omega) (by omega) (by omega) (by omega) _).mono ?_; rw [HM.out]; rintro e w' ⟨rfl, rfl⟩
            go_wp2_with fail
            refine (tick_any L R B (by omega) (by omega) _).mono ?_; rw [if_neg (by omega)]; rintro e w2 ⟨rfl, hb2⟩
            have D1 := C1.below hb2
            have hbw2 := hbr.trans (hb2.mono hbr.size)
            obtain ⟨d0, d1, d2, e0, e1, e2⟩ := D1.three
            have D2 := D1.set3 (.int .i64 B) (.int .i64 R) (.int .i64 B)
            have hW2 := below_set3 hbw2 hg (.int .i64 B) (.int .i64 R) (.int .i64 B)
            have HZ := Lib.hid (set3_size w2 g (.int .i64 B) (.int .i64 R) (.int .i64 B))
            have hown2 := (hown.below hb2).far3 hne (.int .i64 B) (.int .i64 R) (.int .i64 B)
            have hTn := hT.tick (L' := B) hR.1 (by omega) (by omega) (by omega) (by omega)
            have hv := valid_ok (L := B) (R := R) (B := B) (by omega) (by omega) (by omega) (by omega) (by omega)
            clear c0 c1 c2 f0 f1 f2 C1 hown hbr hb2 hck
            go_wp2_with (at_builtin; generalize (((w2.setCell ⟨g, 0, none⟩ (.int .i64 B)).setCell ⟨g, 1, none⟩ (.int .i64 R)).setCell ⟨g, 2, none⟩ (.int .i64 B)) = W2 at *; refine wpList_append_ints rfl (.tmp 41) (.tmp 43) _ rfl w.heap.size 3 .i64 8 Try.underlying32 int_info _ T rfl (hown2.alloc _) _ 1 [_] 1 rfl rfl (ints_at HZ.out) (by simp; omega) (by omega) (by rw [heap_size]; have := hW2.size; omega) ?_; intro v3 w3 hown3 hg3 hat3; have D3 := (D2.alloc (.cells #[.int .i64 n] 3)).grown hg3 hne; have hb3 : Below w.heap.size w w3 := (hW2.alloc hW2.size _).grown hg3 (hW2.alloc hW2.size _).size (fun k hk => (hown2.lt hk).1); have hne3 : v3.ownBlock ≠ some g := apart_new hat3 hne (D2.alloc (.cells #[.int .i64 n] 3)).lt; obtain ⟨k0, k1, k2, _, _, _⟩ := D3.three; clear hat3 hg3)
            refine (valid_any _ _ _ _).mono ?_; rw [hv]; rintro e w4 ⟨rfl, hb4⟩
            go_wp2
            go_roundw
            case rel => exact ⟨k + 1, T ++ [n], 0, B, by omega, by go_num, rfl, by omega, by simp; omega, hTn, D3.below hb4, hown3.below hb4, hne3, hb3.trans (hb4.mono hb3.size)⟩
            case measure => simp [intOf]; omega
        · have h3' : (modI (at_ acts k) 3 == 0) = false := by simpa using h3
          by_cases h0 : 0 < L
          · go_wp2_with fail
            refine (mod_any _ 3 (by omega) (by omega) (by omega) (by omega) _).mono ?_; rintro e w' ⟨rfl, rfl⟩
            go_wp2_with fail
            refine (take_yes L R B (by omega) _).mono ?_; rintro e w2 ⟨rfl, hb2⟩
            have D1 := C1.below hb2
            have hbw2 := hbr.trans (hb2.mono hbr.size)
            have hlt2 := D1.lt
            obtain ⟨d0, d1, d2, e0, e1, e2⟩ := D1.three
            have D2 := (D1.set3 (.int .i64 (L - 1)) (.int .i64 R) (.int .i64 B)).alloc (.cells #[.int .i64 (L - 1), .int .i64 R, .int .i64 B] 23)
            have hW2 := (below_set3 hbw2 hg (.int .i64 (L - 1)) (.int .i64 R) (.int .i64 B)).alloc (below_set3 hbw2 hg (.int .i64 (L - 1)) (.int .i64 R) (.int .i64 B)).size (.cells #[.int .i64 (L - 1), .int .i64 R, .int .i64 B] 23)
            have hown2 := ((hown.below hb2).far3 hne (.int .i64 (L - 1)) (.int .i64 R) (.int .i64 B)).alloc (.cells #[.int .i64 (L - 1), .int .i64 R, .int .i64 B] 23)
            have hTn := hT.take h0
            have hv := valid_ok (L := (L - 1)) (R := R) (B := B) (by omega) (by omega) (by omega) (by omega) (by omega)
            clear c0 c1 c2 f0 f1 f2 C1 hown hbr hb2 hck
            go_wp2_with fail
            refine (valid_any _ _ _ _).mono ?_; rw [hv]; rintro e w4 ⟨rfl, hb4⟩
            go_wp2
            go_roundw
            case rel => exact ⟨k + 1, T, n + 1, (L - 1), by omega, by go_num, rfl, by omega, by omega, hTn, D2.below hb4, hown2.below hb4, hne, hW2.trans (hb4.mono hW2.size)⟩
            case measure => simp [intOf]; omega
          · go_wp2_with fail
            refine (mod_any _ 3 (by omega) (by omega) (by omega) (by omega) _).mono ?_; rintro e w' ⟨rfl, rfl⟩
            go_wp2_with fail
            refine (take_no L R B (by omega) _).mono ?_; rintro e w2 ⟨rfl, hb2⟩
            have D1 := C1.below hb2
            have hbw2 := hbr.trans (hb2.mono hbr.size)
            have hlt2 := D1.lt
            obtain ⟨d0, d1, d2, e0, e1, e2⟩ := D1.three
            have D2 := (D1.set3 (.int .i64 L) (.int .i64 R) (.int .i64 B)).alloc (.cells #[.int .i64 L, .int .i64 R, .int .i64 B] 23)
            have hW2 := (below_set3 hbw2 hg (.int .i64 L) (.int .i64 R) (.int .i64 B)).alloc (below_set3 hbw2 hg (.int .i64 L) (.int .i64 R) (.int .i64 B)).size (.cells #[.int .i64 L, .int .i64 R, .int .i64 B] 23)
            have hown2 := ((hown.below hb2).far3 hne (.int .i64 L) (.int .i64 R) (.int .i64 B)).alloc (.cells #[.int .i64 L, .int .i64 R, .int .i64 B] 23)
            have hTn := hT
            have hv := valid_ok (L := L) (R := R) (B := B) (by omega) (by omega) (by omega) (by omega) (by omega)
            clear c0 c1 c2 f0 f1 f2 C1 hown hbr hb2 hck
            go_wp2_with fail
            refine (valid_any _ _ _ _).mono ?_; rw [hv]; rintro e w4 ⟨rfl, hb4⟩
            go_wp2
            go_roundw
            case rel => exact ⟨k + 1, T, n, L, by omega, by go_num, rfl, by omega, by omega, hTn, D2.below hb4, hown2.below hb4, hne, hW2.trans (hb4.mono hW2.size)⟩
            case measure => simp [intOf]; omega
      · have ek : k = acts.length := by omega
        have hT200 : T.length ≤ 200 := by omega
        have hn200 : n ≤ 200 := by omega
        have hpush := hT.push
        have heach : ∀ t ∈ T ++ [n], 0 ≤ t ∧ t ≤ 200 := fun t ht => by
          rcases List.mem_append.1 ht with h' | h'
          · exact hT.each t h'
          · rw [List.mem_singleton] at h'; subst h'; exact ⟨hn0, hn200⟩
        have hlen : (T ++ [n]).length ≤ 201 := by simp; omega
        have HP := Lib.hid hpush
        have HE := Lib.hid heach
        clear hpush heach c0 c1 c2 f0 f1 f2 hs hn
        go_wp2_with (at_builtin; refine wpList_append_ints rfl (.tmp 63) (.tmp 65) _ rfl w.heap.size 3 .i64 8 Try.underlying32 int_info _ T rfl (hown.alloc _) _ 1 [_] 1 rfl rfl ints_one (by simp; omega) (by omega) (by rw [heap_size]; have := hbr.size; omega) ?_; intro v3 w3 hown3 hg3 hat3; have hb3 : Below w.heap.size w w3 := (hbr.alloc hbr.size _).grown hg3 (hbr.alloc hbr.size _).size (fun k hk => (hown.lt hk).1); obtain ⟨A3, c3, rfl, hc3, hm3, hs3⟩ := hown3.ints; clear hat3 hg3 hown3 hown hne C1)
        have hU1 : (T ++ [n]).length ≤ T.length + 1 := by simp
        have hU2 : T.length + 1 ≤ (T ++ [n]).length := by simp
        generalize T ++ [n] = U at *
        go_loop [69] (fun vi => ∃ i : Nat, i ≤ U.length ∧ vi = .int .i64 i) (fun vi => U.length - (intOf vi).toNat)
        case atStart => exact ⟨0, by omega, rfl⟩
        case round =>
          obtain ⟨i, hi, rfl⟩ := hrel
          by_cases hlti : i < U.length
          · go_wp2
            go_loop [15, 16] (fun vs vk => ∃ j : Nat, i ≤ j ∧ j ≤ U.length ∧ vk = .int .i64 j ∧ vs = .int .i64 (seg U i j)) (fun _ vk => U.length - (intOf vk).toNat)
            case atStart => exact ⟨i, by omega, by omega, rfl, by rw [seg_none]⟩
            case round =>
              obtain ⟨j, hij, hj, rfl, rfl⟩ := hrel
              by_cases hltj : j < U.length
              · obtain ⟨b, off, rfl, hbB, hc⟩ := hs3 (by omega)
                have hcj := hc j hltj
                have hat := HE.out _ (at_mem hltj)
                have hsb := seg_bd HE.out i j hj
                have hP := HP.out i j hij hltj
                rw [seg_next U i j hij hltj] at hP
                have hm := mul_bd (a := (j : Int) - i) (R := R) (by omega) (by omega) (by omega) (by omega)
                have HN := Lib.hid (seg_next U i j hij hltj)
                clear hc
                go_wp2
                go_round
                case rel => exact ⟨j + 1, by omega, by omega, by go_num, by rw [HN.out]⟩
                case measure => simp [intOf]; omega
              · go_wp2
                go_round
                case rel => exact ⟨i + 1, by omega, by go_num⟩
                case measure => simp [intOf]; omega
          · go_wp2_with fail
            refine (awake_any _).mono ?_; rintro e w' ⟨rfl, hw⟩
            go_wp2
            go_ret
            exact ⟨rfl, hb3.trans (hw.mono hb3.size)⟩
end Go.Proofs.Ytooclkopemjhhaa
