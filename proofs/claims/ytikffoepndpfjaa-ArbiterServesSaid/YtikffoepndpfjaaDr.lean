/-
  A deck known by how many numbers are left in it.
-/
import Derived.Test.YtikffoepndpfjaaDk
import Derived.Test.YtikffoepndpfjaaR
namespace Go.Proofs.Ytikffoepndpfjaa
open Go.ChangeShapes Go.WideShapes Go.RowKit
set_option linter.unusedVariables false

/-- A deck with r numbers left lies at g. -/
def DeckR (w : World) (g r : Nat) : Prop := ∃ (A : Option Addr) (l : List Int) (c a : Nat), Deck w g A l c a ∧ Ints .i64 w g A l ∧ Nums l ∧ l.length ≤ 9223372036854775807 ∧ a ≤ l.length ∧ r = l.length - a
theorem DeckR.ok {w : World} {g r : Nat} (h : DeckR w g r) : DeckOk w g := by
  obtain ⟨A, l, c, a, h1, h2, h3, h4, h5, _⟩ := h
  exact ⟨A, l, c, a, h1, h2, h3, h4, h5⟩
theorem DeckOk.left {w : World} {g : Nat} (h : DeckOk w g) : ∃ r, DeckR w g r := by
  obtain ⟨A, l, c, a, h1, h2, h3, h4, h5⟩ := h
  exact ⟨_, A, l, c, a, h1, h2, h3, h4, h5, rfl⟩
theorem DeckR.lt {w : World} {g r : Nat} (h : DeckR w g r) : g < w.heap.size := h.ok.lt
theorem DeckR.below {w w' : World} {g r : Nat} (h : DeckR w g r) (hb : Below w.heap.size w w') : DeckR w' g r := by
  have hlt := h.lt
  obtain ⟨A, l, c, a, hd, hi, hn, hl, ha, hr⟩ := h
  exact ⟨A, l, c, a, Blk.below hd hb, hi.below (hb.mono (by omega)), hn, hl, ha, hr⟩
/-- What is left, read off the world. -/
def restW (w : World) (g : Nat) : Nat := match w.cell? ⟨g, 0, none⟩, w.cell? ⟨g, 1, none⟩ with
  | some (.slice _ n _), some (.int _ a) => n - a.toNat
  | _, _ => 0
theorem DeckR.rest {w : World} {g r : Nat} (h : DeckR w g r) : restW w g = r := by
  obtain ⟨A, l, c, a, hd, _, _, _, _, hr⟩ := h
  obtain ⟨c0, c1, _⟩ := hd.two
  unfold restW
  rw [c0, c1, hr]
  simp
/-- The world grew, but for the deck at g, in which no more are left than before. -/
def Gs (g : Nat) (w w' : World) : Prop := w.grownBy w' (some g) ∧ ∀ r, DeckR w g r → ∃ r', r' ≤ r ∧ DeckR w' g r'
theorem Gs.refl {g : Nat} (w : World) : Gs g w w := ⟨.refl _ _, fun r h => ⟨r, Nat.le_refl _, h⟩⟩
theorem Gs.trans {g : Nat} {a b c : World} (h1 : Gs g a b) (h2 : Gs g b c) : Gs g a c := ⟨h1.1.trans h2.1, fun r h => by
  obtain ⟨r1, l1, d1⟩ := h1.2 r h
  obtain ⟨r2, l2, d2⟩ := h2.2 r1 d1
  exact ⟨r2, by omega, d2⟩⟩
theorem Gs.of_below {g : Nat} {w w' : World} (hb : Below w.heap.size w w') : Gs g w w' := ⟨grown_of_below hb, fun r h => ⟨r, Nat.le_refl _, h.below hb⟩⟩
theorem Gs.drew {g : Nat} (w : World) (n : Nat) : Gs g w (w.drewN n) := Gs.of_below (below_drewN (Below.refl _ _))
theorem Gs.size {g : Nat} {w w' : World} (h : Gs g w w') : w.heap.size ≤ w'.heap.size := h.1.size
theorem Gs.gr {g : Nat} {w w' : World} (h : Gs g w w') : Gr g w w' := ⟨h.1, fun hd => by
  obtain ⟨r, hr⟩ := hd.left
  obtain ⟨r', _, h'⟩ := h.2 r hr
  exact h'.ok⟩
theorem Gs.base {g : Nat} {w0 w w' : World} (h : Gs g w w') (h0 : Below w0.heap.size w0 w) (hg : w0.heap.size ≤ g) : Below w0.heap.size w0 w' := h.gr.base h0 hg
theorem Gs.blk {g b : Nat} {w w' : World} {t : TypeId} {cs : Array Value} (h : Gs g w w') (hb : Blk w b t cs) (hne : b ≠ g) : Blk w' b t cs := h.gr.blk hb hne
theorem next_r (g r : Nat) (n : Int) (w : World) (hd : DeckR w g r) (h0 : 0 < n) (h1 : n ≤ 4294967296) :
    Calls Try.prog 11 #[.pointer (some ⟨g, 0, none⟩), .int .i64 n] w fun e w' => w.grownBy w' (some g) ∧ DeckR w' g (r - 1) ∧ ∃ x : Int, 0 ≤ x ∧ x < n ∧ e = .returned (.int .i64 x) := by
  obtain ⟨A, l, c, a, hd, hi, hn, hl, ha, hr⟩ := hd
  refine (next_any A l c g a n w hi hn hl ha hd h0 h1).mono ?_
  rintro e w' ⟨rfl, hd', hg'⟩
  have hI : Ints .i64 w' g A l := fun h0 => by
    obtain ⟨b, off, hA, hB, hc⟩ := hi h0
    refine ⟨b, off, hA, hB, fun i hi => ?_⟩
    rw [← hc i hi]
    exact World.cell?_of_block (hg'.block b (by have := Blk.lt hd; omega) (fun e => by have := Option.some.inj e; omega))
  refine ⟨hg', ⟨A, l, c, _, hd', hI, hn, hl, nxA_le ha, ?_⟩, _, (nxV_bd l a h0).1, (nxV_bd l a h0).2, rfl⟩
  unfold nxA
  split <;> omega
theorem next_s (g : Nat) (n : Int) (w : World) (hd : DeckOk w g) (h0 : 0 < n) (h1 : n ≤ 4294967296) :
    Calls Try.prog 11 #[.pointer (some ⟨g, 0, none⟩), .int .i64 n] w fun e w' => Gs g w w' ∧ DeckOk w' g ∧ ∃ x : Int, 0 ≤ x ∧ x < n ∧ e = .returned (.int .i64 x) := by
  obtain ⟨r, hr⟩ := hd.left
  refine (next_r g r n w hr h0 h1).mono ?_
  rintro e w' ⟨hg, hd', x, x0, x1, rfl⟩
  obtain ⟨r0, hr0⟩ : ∃ r0, r = r0 := ⟨_, rfl⟩
  refine ⟨⟨hg, fun r2 h2 => ⟨r - 1, ?_, hd'⟩⟩, hd'.ok, x, x0, x1, rfl⟩
  have e1 := hr.rest
  have e2 := h2.rest
  omega
theorem next_t (g r : Nat) (n : Int) (w : World) (hd : DeckR w g r) (h0 : 0 < n) (h1 : n ≤ 4294967296) :
    Calls Try.prog 11 #[.pointer (some ⟨g, 0, none⟩), .int .i64 n] w fun e w' => Gs g w w' ∧ DeckR w' g (r - 1) ∧ ∃ x : Int, 0 ≤ x ∧ x < n ∧ e = .returned (.int .i64 x) := by
  refine (next_r g r n w hd h0 h1).mono ?_
  rintro e w' ⟨hg, hd', x, x0, x1, rfl⟩
  refine ⟨⟨hg, fun r2 h2 => ⟨r - 1, ?_, hd'⟩⟩, hd', x, x0, x1, rfl⟩
  have e1 := hd.rest
  have e2 := h2.rest
  omega
theorem Gs.more {g : Nat} {w a b : World} {row : Option Nat} (h : Gs g w a) (hd : DeckOk a g) (hgw : g < w.heap.size) (hg : a.grownBy b row) (hr : ∀ k, row = some k → w.heap.size ≤ k) : Gs g w b ∧ DeckOk b g := by
  have hm := h.gr.more hd hgw hg hr
  refine ⟨⟨hm.1.1, fun r h2 => ?_⟩, hm.2⟩
  obtain ⟨r1, l1, d1⟩ := h.2 r h2
  obtain ⟨A, l, c, x, h3, h4, h5, h6, h7, h8⟩ := d1
  have hlt := Blk.lt h3
  have hne : row ≠ some g := fun e => by have := hr g e; omega
  refine ⟨r1, l1, A, l, c, x, Blk.grown h3 hg hne, fun h0 => ?_, h5, h6, h7, h8⟩
  obtain ⟨bb, off, hA, hB, hc⟩ := h4 h0
  refine ⟨bb, off, hA, hB, fun i hi => ?_⟩
  rw [← hc i hi]
  exact World.cell?_of_block (hg.block bb (by omega) (fun e => by have := hr bb e.symm; omega))
theorem range_s (g : Nat) (lo hi : Int) (w : World) (hd : DeckOk w g) (h0 : 0 ≤ lo) (h1 : lo ≤ hi) (h2 : hi ≤ 1000000) :
    Calls Try.prog 10 #[.pointer (some ⟨g, 0, none⟩), .int .i64 lo, .int .i64 hi] w fun e w' => Gs g w w' ∧ DeckOk w' g ∧ ∃ x : Int, lo ≤ x ∧ x ≤ hi ∧ e = .returned (.int .i64 x) := by
  go_enter Try.func10, Try.ntmps10
  go_wp2_with fail
  refine (next_s g _ w hd (by omega) (by omega)).mono ?_
  rintro e w' ⟨hg, hd', x, x0, x1, rfl⟩
  go_wp2
  go_ret
  exact ⟨hg, hd', lo + x, by omega, by omega, rfl⟩
theorem left_r (g r : Nat) (w : World) (hd : DeckR w g r) :
    Calls Try.prog 26 #[.pointer (some ⟨g, 0, none⟩)] w fun e w' => e = .returned (.bool (decide (0 < r))) ∧ Below w.heap.size w w' := by
  obtain ⟨A, l, c, a, hd, hi, hn, hl, ha, hr⟩ := hd
  have hlt := Blk.lt hd
  have h0 : ∀ w', Below w.heap.size w w' → w'.cell? ⟨g, 0, none⟩ = some (.slice A l.length c) := fun w' hb => ((Blk.below hd hb).cell 0).trans rfl
  have h1 : ∀ w', Below w.heap.size w w' → w'.cell? ⟨g, 1, none⟩ = some (.int .i64 a) := fun w' hb => ((Blk.below hd hb).cell 1).trans rfl
  have HR : Hid (decide (a < l.length) = decide (0 < r)) := Lib.hid (by simp only [decide_eq_decide]; omega)
  clear hd hi
  go_enter Try.func26, Try.ntmps26
  go_wp2_with fail
  refine wp_region_grow (by kernel_rfl) (by kernel_rfl) ?_
  repeat' (first
      | go_big_quiet_skip
      | (go_big_quiet_want; first
          | (go_big_quiet_op; go_big_quiet_on)
          | (refine quiet_det ?_; apply Exists.intro; refine ⟨fun w' hC => ?_, ?_⟩; (go_simp <;> (first | rfl | exact ⟨rfl, rfl⟩)); apply Exists.intro; refine ⟨?_, ?_⟩; (go_simp <;> (first | rfl | exact ⟨rfl, rfl⟩)); go_big_quiet_on)
          | (show Oper.quiet _ { dst := _, op := .call { callee := .value _, args := _, argTypes := _ }, type := _, pos := _, after := _, guard := _ } _ _ _; refine quiet_call ?_; apply Exists.intro; apply Exists.intro; refine ⟨fun w' hC => ?_, ?_⟩; (go_simp <;> (first | rfl | exact ⟨rfl, rfl⟩)); apply Exists.intro; refine ⟨fun w' hC => ?_, ?_⟩; (first

              | fail); apply Exists.intro; refine ⟨?_, ?_⟩; (go_simp <;> (first | rfl | exact ⟨rfl, rfl⟩)); go_big_quiet_on)))
  all_goals refine wpQuiet_nil ?_
  intro w2 hw2
  go_wp2
  go_ret
  refine ⟨?_, hw2⟩
  rw [← HR.out]
  rfl
theorem few_any (A : Option Addr) (c n : Nat) (w : World) : Calls Try.prog 25 #[.slice A n c] w fun e w' => e = .returned (.bool (decide (n ≤ 300))) ∧ w = w' := by
  go_enter Try.func25, Try.ntmps25
  go_wp2
  go_ret
  refine ⟨?_, rfl⟩
  have e : decide ((n : Int) ≤ 300) = decide (n ≤ 300) := by simp only [decide_eq_decide]; omega
  rw [← e]
  rfl
end Go.Proofs.Ytikffoepndpfjaa
