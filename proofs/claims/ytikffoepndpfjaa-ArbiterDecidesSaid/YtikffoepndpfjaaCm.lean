/-
  Claims that are drawn from a deck. Conditions: few phases, a small tick.
-/
import Derived.Test.YtikffoepndpfjaaMg
import Derived.Test.YtikffoepndpfjaaDk
import Derived.Test.YtikffoepndpfjaaAs
import Derived.Test.YtikffoepndpfjaaRe
namespace Go.Proofs.Ytikffoepndpfjaa
open Go.ChangeShapes Go.WideShapes Go.RowKit
set_option linter.unusedVariables false

theorem claim_info : (Try.prog.info? 47).map (fun i => (i.zero, i.size, i.bytes)) = some (some (.agg #[.int .i64 0, .int .i64 0, .int .i64 0, .int .i64 0, .int .i64 0]), 5, 40) := by kernel_rfl
structure ClIn (n : Nat) (now : Int) (x : Cl) : Prop where
  ag : 0 ≤ x.ag ∧ x.ag ≤ 2
  id : 0 ≤ x.id ∧ x.id ≤ 3
  ph : 0 ≤ x.ph ∧ x.ph ≤ n - 1
  cl : 0 ≤ x.cl ∧ x.cl ≤ 3
  si : 0 ≤ x.si ∧ x.si ≤ now
def Cl.cells (x : Cl) : List Value := [.int .i64 x.ag, .int .i64 x.id, .int .i64 x.ph, .int .i64 x.cl, .int .i64 x.si]
theorem clAt_get {C : List Cl} {i : Nat} (h : i < C.length) : C[i]? = some (clAt C i) := by simp [clAt, h]
theorem row_cls {w : World} {base : Nat} {v : Value} {C : List Cl} (h : w.ownsRow base 47 5 v C.length (C.flatMap Cl.cells)) : ∃ A c, v = .slice A C.length c ∧ Cls w w.heap.size A C ∧ (∀ a, A = some a → base ≤ a.block) := by
  obtain ⟨A, c, hv, _, hb, hc⟩ := row_get (f := Cl.cells) (m := 5) (fun _ => rfl) h
  refine ⟨A, c, hv, fun h0 => ?_, hb⟩
  obtain ⟨b, hA, hB, hcell⟩ := hc h0
  refine ⟨b, 0, hA, hB, fun i hi => ?_⟩
  have hx := fun j hj => hcell i _ (clAt_get hi) j hj
  rw [Nat.zero_add]
  exact ⟨hx 0 (by omega), hx 1 (by omega), hx 2 (by omega), hx 3 (by omega), hx 4 (by omega)⟩
set_option maxRecDepth 20000 in
set_option maxHeartbeats 2000000 in
theorem claims_any (g n : Nat) (now : Int) (w : World) (hdk0 : DeckOk w g) (hn : 1 ≤ n ∧ n ≤ 1000) (hnow : 0 ≤ now ∧ now ≤ 9999) :
    Calls Try.prog 13 #[.pointer (some ⟨g, 0, none⟩), .int .i64 n, .int .i64 now] w fun e w' => Gr g w w' ∧ DeckOk w' g ∧ ∃ (A : Option Addr) (c : Nat) (C : List Cl),
      e = .returned (.slice A C.length c) ∧ C.length ≤ 5 ∧ (∀ x ∈ C, ClIn n now x) ∧ Cls w' w'.heap.size A C ∧ (∀ a, A = some a → w.heap.size ≤ a.block) := by
  have hg := hdk0.lt
  go_enter Try.func13, Try.ntmps13
  go_wp2_with fail
  refine (next_ok g 6 w hdk0 (by omega) (by omega)).mono ?_
  rintro e W ⟨hG0, hd0, x, x0, x1, rfl⟩
  obtain ⟨K, rfl⟩ := Int.eq_ofNat_of_zero_le x0
  go_wp2
  go_loopw [7, 8] (fun v i wr => ∃ k : Nat, k ≤ K ∧ i = .int .i64 k ∧ Gr g w wr ∧ DeckOk wr g ∧ ∃ C : List Cl, wr.ownsRow w.heap.size 47 5 v C.length (C.flatMap Cl.cells) ∧ C.length + k = K ∧ ∀ x ∈ C, ClIn n now x) (fun _ i _ => (intOf i).toNat)
  case atStart => exact ⟨K, by omega, rfl, hG0, hd0, [], row_nil, by simp, fun x hx => by cases hx⟩
  case round =>
    obtain ⟨k, hk, rfl, hGr, hdk, C, hown, hCk, hU⟩ := hrel
    cases k with
    | succ j =>
      have hj1 : (0 : Int) < (j : Int) + 1 := by omega
      go_wp2_with fail
      refine wp_region_pre (R := (Gr g)) 20 37 [fun v _ => v = u7, fun v _ => v = .pointer (some ⟨g, 0, none⟩), fun v w => ∃ x : Int, v = .int .i64 x ∧ 0 ≤ x ∧ x ≤ 2, fun v _ => v = .pointer (some ⟨g, 0, none⟩), fun v w => ∃ x : Int, v = .int .i64 x ∧ 0 ≤ x ∧ x ≤ 3, fun v _ => v = .pointer (some ⟨g, 0, none⟩), fun v _ => v = .int .i64 n, fun v w => ∃ x : Int, v = .int .i64 x ∧ 0 ≤ x ∧ x ≤ n - 1, fun v w => ∃ b : Nat, v = .slice (some ⟨b, 0, none⟩) 6 6 ∧ b ≠ g ∧ Blk w b 3 #[.int .i64 0, .int .i64 1, .int .i64 1, .int .i64 0, .int .i64 2, .int .i64 3], fun v _ => v = .pointer (some ⟨g, 0, none⟩), fun v w => ∃ x : Nat, v = .int .i64 x ∧ x < 6, fun v w => ∃ (b x : Nat) (y : Int) (c : Array Value), v = .pointer (some ⟨b, x, none⟩) ∧ 0 ≤ y ∧ y ≤ 3 ∧ b ≠ g ∧ c[x]? = some (.int .i64 y) ∧ Blk w b 3 c, fun v w => ∃ x : Int, v = .int .i64 x ∧ 0 ≤ x ∧ x ≤ 3, fun v _ => v = .int .i64 now, fun v _ => v = .pointer (some ⟨g, 0, none⟩), fun v w => ∃ x : Int, v = .int .i64 x ∧ 0 ≤ x ∧ x ≤ 19, fun v w => ∃ x : Int, v = .int .i64 x ∧ -19 ≤ x ∧ x ≤ now, fun v w => ∃ x : Int, v = .int .i64 x ∧ 0 ≤ x ∧ x ≤ now, fun v w => ∃ x : Cl, v = .agg #[.int .i64 x.ag, .int .i64 x.id, .int .i64 x.ph, .int .i64 x.cl, .int .i64 x.si] ∧ ClIn n now x, fun v w => ∃ (b : Nat) (x : Cl), v = .slice (some ⟨b, 0, none⟩) 1 1 ∧ ClIn n now x ∧ b ≠ g ∧ Blk w b 47 #[.int .i64 x.ag, .int .i64 x.id, .int .i64 x.ph, .int .i64 x.cl, .int .i64 x.si]] (Gr.trans) (Gr.drew) (by kernel_rfl) (fun _ _ d _ _ h => by cases d <;> exact h) rfl (by kernel_rfl) (stay_cons (stays_v _) (stay_cons (stays_v _) (stay_cons (fun _ _ _ h _ => h) (stay_cons (stays_v _) (stay_cons (fun _ _ _ h _ => h) (stay_cons (stays_v _) (stay_cons (stays_v _) (stay_cons (fun _ _ _ h _ => h) (stay_cons (fun _ _ _ ⟨b, h1, h4, h5⟩ hb => ⟨b, h1, h4, hb.blk h5 h4⟩) (stay_cons (stays_v _) (stay_cons (fun _ _ _ h _ => h) (stay_cons (fun _ _ _ ⟨b, x, y, c, h1, h2, h3, h4, h5, h6⟩ hb => ⟨b, x, y, c, h1, h2, h3, h4, h5, hb.blk h6 h4⟩) (stay_cons (fun _ _ _ h _ => h) (stay_cons (stays_v _) (stay_cons (stays_v _) (stay_cons (fun _ _ _ h _ => h) (stay_cons (fun _ _ _ h _ => h) (stay_cons (fun _ _ _ h _ => h) (stay_cons (fun _ _ _ h _ => h) (stay_cons (fun _ _ _ ⟨b, x, h1, h2, h4, h5⟩ hb => ⟨b, x, h1, h2, h4, hb.blk h5 h4⟩) (stay_nil))))))))))))))))))))) ?_ ?_
      · simp only [List.take_succ_cons, List.take_zero]
        refine steps_cons (Gr.refl) (fun ev xw hb hc hf hfr hd hr => ?_) ?_
        · have e7 : ev (.tmp 7) = u7 := hfr 7 (by kernel_rfl)
          clear hfr hd
          show OpOk _ _ ev xw fun v w' => (Gr g) xw w' ∧ v = u7
          refine opOk_hid (fun Rp HR => ?_)
          unfold OpOk
          go_simp
          rw [HR.out]
          exact ⟨hr, rfl⟩
        refine steps_cons (Gr.refl) (fun ev xw hb hc hf hfr hd hr => ?_) ?_
        · have e0 : ev (.tmp 0) = .pointer (some ⟨g, 0, none⟩) := hfr 0 (by kernel_rfl)
          clear hfr hd
          show OpOk _ _ ev xw fun v w' => (Gr g) xw w' ∧ v = .pointer (some ⟨g, 0, none⟩)
          refine opOk_hid (fun Rp HR => ?_)
          unfold OpOk
          go_simp
          rw [HR.out]
          exact ⟨hr, rfl⟩
        refine steps_cons (Gr.refl) (fun ev xw hb hc hf hfr hd hr => ?_) ?_
        · have e16 : ev (.tmp 16) = .pointer (some ⟨g, 0, none⟩) := hd 1 16 (by kernel_rfl)
          clear hfr hd
          show OpOk _ _ ev xw fun v w' => (Gr g) xw w' ∧ ∃ x : Int, v = .int .i64 x ∧ 0 ≤ x ∧ x ≤ 2
          refine opOk_hid (fun Rp HR => ?_)
          unfold OpOk
          go_simp
          refine (next_ok g _ xw (hb.2 hdk) (by omega) (by omega)).mono ?_
          rintro e w'' ⟨hgr, hdk', x, h0, h1, rfl⟩
          refine ⟨_, rfl, ?_⟩
          rw [HR.out]
          exact ⟨hgr, x, rfl, h0, by omega⟩
        refine steps_cons (Gr.refl) (fun ev xw hb hc hf hfr hd hr => ?_) ?_
        · have e0 : ev (.tmp 0) = .pointer (some ⟨g, 0, none⟩) := hfr 0 (by kernel_rfl)
          clear hfr hd
          show OpOk _ _ ev xw fun v w' => (Gr g) xw w' ∧ v = .pointer (some ⟨g, 0, none⟩)
          refine opOk_hid (fun Rp HR => ?_)
          unfold OpOk
          go_simp
          rw [HR.out]
          exact ⟨hr, rfl⟩
        refine steps_cons (Gr.refl) (fun ev xw hb hc hf hfr hd hr => ?_) ?_
        · have e18 : ev (.tmp 18) = .pointer (some ⟨g, 0, none⟩) := hd 3 18 (by kernel_rfl)
          clear hfr hd
          show OpOk _ _ ev xw fun v w' => (Gr g) xw w' ∧ ∃ x : Int, v = .int .i64 x ∧ 0 ≤ x ∧ x ≤ 3
          refine opOk_hid (fun Rp HR => ?_)
          unfold OpOk
          go_simp
          refine (next_ok g _ xw (hb.2 hdk) (by omega) (by omega)).mono ?_
          rintro e w'' ⟨hgr, hdk', x, h0, h1, rfl⟩
          refine ⟨_, rfl, ?_⟩
          rw [HR.out]
          exact ⟨hgr, x, rfl, h0, by omega⟩
        refine steps_cons (Gr.refl) (fun ev xw hb hc hf hfr hd hr => ?_) ?_
        · have e0 : ev (.tmp 0) = .pointer (some ⟨g, 0, none⟩) := hfr 0 (by kernel_rfl)
          clear hfr hd
          show OpOk _ _ ev xw fun v w' => (Gr g) xw w' ∧ v = .pointer (some ⟨g, 0, none⟩)
          refine opOk_hid (fun Rp HR => ?_)
          unfold OpOk
          go_simp
          rw [HR.out]
          exact ⟨hr, rfl⟩
        refine steps_cons (Gr.refl) (fun ev xw hb hc hf hfr hd hr => ?_) ?_
        · have e1 : ev (.tmp 1) = .int .i64 n := hfr 1 (by kernel_rfl)
          clear hfr hd
          show OpOk _ _ ev xw fun v w' => (Gr g) xw w' ∧ v = .int .i64 n
          refine opOk_hid (fun Rp HR => ?_)
          unfold OpOk
          go_simp
          rw [HR.out]
          exact ⟨hr, rfl⟩
        refine steps_cons (Gr.refl) (fun ev xw hb hc hf hfr hd hr => ?_) ?_
        · have e20 : ev (.tmp 20) = .pointer (some ⟨g, 0, none⟩) := hd 5 20 (by kernel_rfl)
          have e21 : ev (.tmp 21) = .int .i64 n := hd 6 21 (by kernel_rfl)
          clear hfr hd
          show OpOk _ _ ev xw fun v w' => (Gr g) xw w' ∧ ∃ x : Int, v = .int .i64 x ∧ 0 ≤ x ∧ x ≤ n - 1
          refine opOk_hid (fun Rp HR => ?_)
          unfold OpOk
          go_simp
          refine (next_ok g _ xw (hb.2 hdk) (by omega) (by omega)).mono ?_
          rintro e w'' ⟨hgr, hdk', x, h0, h1, rfl⟩
          refine ⟨_, rfl, ?_⟩
          rw [HR.out]
          exact ⟨hgr, x, rfl, h0, by omega⟩
        refine steps_cons (Gr.refl) (fun ev xw hb hc hf hfr hd hr => ?_) ?_
        · clear hfr hd
          have hlt := (hb.2 hdk).lt
          show OpOk _ _ ev xw fun v w' => (Gr g) xw w' ∧ ∃ b : Nat, v = .slice (some ⟨b, 0, none⟩) 6 6 ∧ b ≠ g ∧ Blk w' b 3 #[.int .i64 0, .int .i64 1, .int .i64 1, .int .i64 0, .int .i64 2, .int .i64 3]
          refine opOk_hid (fun Rp HR => ?_)
          unfold OpOk
          go_simp
          rw [HR.out]
          exact ⟨Gr.of_below (lat_alloc (Below.refl _ _) _), _, rfl, by omega, Blk.new⟩
        refine steps_cons (Gr.refl) (fun ev xw hb hc hf hfr hd hr => ?_) ?_
        · have e0 : ev (.tmp 0) = .pointer (some ⟨g, 0, none⟩) := hfr 0 (by kernel_rfl)
          clear hfr hd
          show OpOk _ _ ev xw fun v w' => (Gr g) xw w' ∧ v = .pointer (some ⟨g, 0, none⟩)
          refine opOk_hid (fun Rp HR => ?_)
          unfold OpOk
          go_simp
          rw [HR.out]
          exact ⟨hr, rfl⟩
        refine steps_cons (Gr.refl) (fun ev xw hb hc hf hfr hd hr => ?_) ?_
        · have e24 : ev (.tmp 24) = .pointer (some ⟨g, 0, none⟩) := hd 9 24 (by kernel_rfl)
          clear hfr hd
          show OpOk _ _ ev xw fun v w' => (Gr g) xw w' ∧ ∃ x : Nat, v = .int .i64 x ∧ x < 6
          refine opOk_hid (fun Rp HR => ?_)
          unfold OpOk
          go_simp
          refine (next_ok g _ xw (hb.2 hdk) (by omega) (by omega)).mono ?_
          rintro e w'' ⟨hgr, hdk', x, h0, h1, rfl⟩
          obtain ⟨q, rfl⟩ := Int.eq_ofNat_of_zero_le h0
          refine ⟨_, rfl, ?_⟩
          rw [HR.out]
          exact ⟨hgr, q, rfl, by omega⟩
        refine steps_cons (Gr.refl) (fun ev xw hb hc hf hfr hd hr => ?_) ?_
        · obtain ⟨b23, e23, n23, B23⟩ : ∃ b : Nat, ev (.tmp 23) = .slice (some ⟨b, 0, none⟩) 6 6 ∧ b ≠ g ∧ Blk xw b 3 #[.int .i64 0, .int .i64 1, .int .i64 1, .int .i64 0, .int .i64 2, .int .i64 3] := hd 8 23 (by kernel_rfl)
          obtain ⟨x25, e25, z25⟩ : ∃ x : Nat, ev (.tmp 25) = .int .i64 x ∧ x < 6 := hd 10 25 (by kernel_rfl)
          clear hfr hd
          have hx3 : (x25 : Int) < 6 := by omega
          show OpOk _ _ ev xw fun v w' => (Gr g) xw w' ∧ ∃ (b x : Nat) (y : Int) (c : Array Value), v = .pointer (some ⟨b, x, none⟩) ∧ 0 ≤ y ∧ y ≤ 3 ∧ b ≠ g ∧ c[x]? = some (.int .i64 y) ∧ Blk w' b 3 c
          refine opOk_hid (fun Rp HR => ?_)
          unfold OpOk
          go_simp
          rw [HR.out]
          have hx4 : x25 = 0 ∨ x25 = 1 ∨ x25 = 2 ∨ x25 = 3 ∨ x25 = 4 ∨ x25 = 5 := by omega
          rcases hx4 with rfl | rfl | rfl | rfl | rfl | rfl
          all_goals exact ⟨hr, _, _, _, _, rfl, by omega, by omega, n23, rfl, B23⟩
        refine steps_cons (Gr.refl) (fun ev xw hb hc hf hfr hd hr => ?_) ?_
        · obtain ⟨b26, p26, x26, c26, e26, y26, z26, n26, k26, B26⟩ : ∃ (b x : Nat) (y : Int) (c : Array Value), ev (.tmp 26) = .pointer (some ⟨b, x, none⟩) ∧ 0 ≤ y ∧ y ≤ 3 ∧ b ≠ g ∧ c[x]? = some (.int .i64 y) ∧ Blk xw b 3 c := hd 11 26 (by kernel_rfl)
          clear hfr hd
          have k26 := B26.at p26 k26
          show OpOk _ _ ev xw fun v w' => (Gr g) xw w' ∧ ∃ x : Int, v = .int .i64 x ∧ 0 ≤ x ∧ x ≤ 3
          refine opOk_hid (fun Rp HR => ?_)
          unfold OpOk
          go_simp
          rw [HR.out]
          exact ⟨hr, _, rfl, y26, z26⟩
        refine steps_cons (Gr.refl) (fun ev xw hb hc hf hfr hd hr => ?_) ?_
        · have e2 : ev (.tmp 2) = .int .i64 now := hfr 2 (by kernel_rfl)
          clear hfr hd
          show OpOk _ _ ev xw fun v w' => (Gr g) xw w' ∧ v = .int .i64 now
          refine opOk_hid (fun Rp HR => ?_)
          unfold OpOk
          go_simp
          rw [HR.out]
          exact ⟨hr, rfl⟩
        refine steps_cons (Gr.refl) (fun ev xw hb hc hf hfr hd hr => ?_) ?_
        · have e0 : ev (.tmp 0) = .pointer (some ⟨g, 0, none⟩) := hfr 0 (by kernel_rfl)
          clear hfr hd
          show OpOk _ _ ev xw fun v w' => (Gr g) xw w' ∧ v = .pointer (some ⟨g, 0, none⟩)
          refine opOk_hid (fun Rp HR => ?_)
          unfold OpOk
          go_simp
          rw [HR.out]
          exact ⟨hr, rfl⟩
        refine steps_cons (Gr.refl) (fun ev xw hb hc hf hfr hd hr => ?_) ?_
        · have e29 : ev (.tmp 29) = .pointer (some ⟨g, 0, none⟩) := hd 14 29 (by kernel_rfl)
          clear hfr hd
          show OpOk _ _ ev xw fun v w' => (Gr g) xw w' ∧ ∃ x : Int, v = .int .i64 x ∧ 0 ≤ x ∧ x ≤ 19
          refine opOk_hid (fun Rp HR => ?_)
          unfold OpOk
          go_simp
          refine (next_ok g _ xw (hb.2 hdk) (by omega) (by omega)).mono ?_
          rintro e w'' ⟨hgr, hdk', x, h0, h1, rfl⟩
          refine ⟨_, rfl, ?_⟩
          rw [HR.out]
          exact ⟨hgr, x, rfl, h0, by omega⟩
        refine steps_cons (Gr.refl) (fun ev xw hb hc hf hfr hd hr => ?_) ?_
        · have e28 : ev (.tmp 28) = .int .i64 now := hd 13 28 (by kernel_rfl)
          obtain ⟨x30, e30, y30, z30⟩ : ∃ x : Int, ev (.tmp 30) = .int .i64 x ∧ 0 ≤ x ∧ x ≤ 19 := hd 15 30 (by kernel_rfl)
          clear hfr hd
          have hw : IntKind.i64.wrap (now - x30) = now - x30 := by rw [IntKind.wrap_i64]; omega
          show OpOk _ _ ev xw fun v w' => (Gr g) xw w' ∧ ∃ x : Int, v = .int .i64 x ∧ -19 ≤ x ∧ x ≤ now
          refine opOk_hid (fun Rp HR => ?_)
          unfold OpOk
          go_simp
          rw [HR.out]
          exact ⟨hr, _, rfl, by omega, by omega⟩
        refine steps_cons (Gr.refl) (fun ev xw hb hc hf hfr hd hr => ?_) ?_
        · obtain ⟨x31, e31, y31, z31⟩ : ∃ x : Int, ev (.tmp 31) = .int .i64 x ∧ -19 ≤ x ∧ x ≤ now := hd 16 31 (by kernel_rfl)
          clear hfr hd
          show OpOk _ _ ev xw fun v w' => (Gr g) xw w' ∧ ∃ x : Int, v = .int .i64 x ∧ 0 ≤ x ∧ x ≤ now
          refine opOk_hid (fun Rp HR => ?_)
          unfold OpOk
          go_simp
          rw [HR.out]
          exact ⟨hr, _, rfl, by split <;> omega, by split <;> omega⟩
        refine steps_cons (Gr.refl) (fun ev xw hb hc hf hfr hd hr => ?_) ?_
        · obtain ⟨x17, e17, y17, z17⟩ : ∃ x : Int, ev (.tmp 17) = .int .i64 x ∧ 0 ≤ x ∧ x ≤ 2 := hd 2 17 (by kernel_rfl)
          obtain ⟨x19, e19, y19, z19⟩ : ∃ x : Int, ev (.tmp 19) = .int .i64 x ∧ 0 ≤ x ∧ x ≤ 3 := hd 4 19 (by kernel_rfl)
          obtain ⟨x22, e22, y22, z22⟩ : ∃ x : Int, ev (.tmp 22) = .int .i64 x ∧ 0 ≤ x ∧ x ≤ n - 1 := hd 7 22 (by kernel_rfl)
          obtain ⟨x27, e27, y27, z27⟩ : ∃ x : Int, ev (.tmp 27) = .int .i64 x ∧ 0 ≤ x ∧ x ≤ 3 := hd 12 27 (by kernel_rfl)
          obtain ⟨x32, e32, y32, z32⟩ : ∃ x : Int, ev (.tmp 32) = .int .i64 x ∧ 0 ≤ x ∧ x ≤ now := hd 17 32 (by kernel_rfl)
          clear hfr hd
          show OpOk _ _ ev xw fun v w' => (Gr g) xw w' ∧ ∃ x : Cl, v = .agg #[.int .i64 x.ag, .int .i64 x.id, .int .i64 x.ph, .int .i64 x.cl, .int .i64 x.si] ∧ ClIn n now x
          refine opOk_hid (fun Rp HR => ?_)
          unfold OpOk
          go_simp
          rw [HR.out]
          exact ⟨hr, ⟨x17, x19, x22, x27, x32⟩, rfl, ⟨by simp; omega, by simp; omega, by simp; omega, by simp; omega, by simp; omega⟩⟩
        refine steps_cons (Gr.refl) (fun ev xw hb hc hf hfr hd hr => ?_) ?_
        · obtain ⟨x33, e33, z33⟩ : ∃ x : Cl, ev (.tmp 33) = .agg #[.int .i64 x.ag, .int .i64 x.id, .int .i64 x.ph, .int .i64 x.cl, .int .i64 x.si] ∧ ClIn n now x := hd 18 33 (by kernel_rfl)
          clear hfr hd
          have hlt := (hb.2 hdk).lt
          show OpOk _ _ ev xw fun v w' => (Gr g) xw w' ∧ ∃ (b : Nat) (x : Cl), v = .slice (some ⟨b, 0, none⟩) 1 1 ∧ ClIn n now x ∧ b ≠ g ∧ Blk w' b 47 #[.int .i64 x.ag, .int .i64 x.id, .int .i64 x.ph, .int .i64 x.cl, .int .i64 x.si]
          refine opOk_hid (fun Rp HR => ?_)
          unfold OpOk
          go_simp
          rw [HR.out]
          exact ⟨Gr.of_below (lat_alloc (Below.refl _ _) _), _, x33, rfl, z33, by omega, Blk.new⟩
        exact steps_nil
      · intro vs W5 hb5 hk
        obtain ⟨b34, x34, k34, z34, n34, B34⟩ : ∃ (b : Nat) (x : Cl), vs 19 = .slice (some ⟨b, 0, none⟩) 1 1 ∧ ClIn n now x ∧ b ≠ g ∧ Blk W5 b 47 #[.int .i64 x.ag, .int .i64 x.id, .int .i64 x.ph, .int .i64 x.cl, .int .i64 x.si] := hk 19 (by omega)
        have k15 : vs 0 = u7 := hk 0 (by omega)
        clear hk
        simp only [List.take_succ_cons, List.take_zero, List.drop_succ_cons, List.drop_zero, putAll, Act.put, List.setIfInBounds_toArray, List.set_cons_zero, List.set_cons_succ, k34, k15, Nat.reduceAdd]
        clear k34 k15
        have own5 := row_block hown (w' := W5) (fun b h1 h2 _ => hb5.1.block b h2 (fun e => by injection e with e; omega))
        have hGr5 := hGr.trans hb5
        have hdk5 := hb5.2 hdk
        have hsz5 := hGr5.size
        go_wp2_with (at_builtin; refine wpList_append_one rfl (.tmp 15) (.tmp 34) _ rfl w.heap.size 47 _ 5 40 Try.underlying35 claim_info rfl (by omega) u7 C.length _ rfl own5 b34 1 47 _ rfl rfl B34 (by simp [Value.oneCell']) (by omega) (by omega) (by omega) ?_; intro g6 c6 w6 own6 hg6 a6 hb6; have hGr6 := hGr5.more hdk5 hg hg6 (fun k e => (row_lt own5 e).1))
        have HK := Lib.hid (show IntKind.i64.wrap ((j : Int) + 1 - 1) = j by rw [IntKind.wrap_i64]; omega)
        go_wp2
        go_roundw
        case rel => exact ⟨j, by omega, rfl, hGr6.1, hGr6.2, C ++ [x34], by rw [List.flatMap_append, List.length_append]; exact own6, by simp <;> omega, fun x hx => by
          rcases List.mem_append.1 hx with h | h
          · exact hU x h
          · rw [List.mem_singleton] at h; subst h; exact z34⟩
        case measure => simp [intOf] <;> omega
    | zero =>
      have hCK : C.length ≤ 5 := by omega
      obtain ⟨A, c, hv, hC, hA⟩ := row_cls hown
      subst hv
      go_wp2
      go_ret
      exact ⟨hGr, hdk, A, c, C, rfl, hCK, hU, hC, hA⟩
end Go.Proofs.Ytikffoepndpfjaa
