/-
  A deck as a source of numbers: what it gives is known by its bounds alone. Conditions: the divisors are positive.
-/
import Derived.Test.YtkpbkahmbbkcdaaD
import Derived.Maps.AppendAt
namespace Go.Proofs.Ytkpbkahmbbkcdaa
open Go.ChangeShapes Go.WideShapes Go.RowKit
set_option linter.unusedVariables false

/-- A deck lies at g, whatever it holds. -/
def DeckOk (w : World) (g : Nat) : Prop := ∃ (A : Option Addr) (l : List Int) (c a : Nat), Deck w g A l c a ∧ Ints .i64 w g A l ∧ Nums l ∧ l.length ≤ 9223372036854775807 ∧ a ≤ l.length
theorem DeckOk.lt {w : World} {g : Nat} (h : DeckOk w g) : g < w.heap.size := by
  obtain ⟨A, l, c, a, hd, _⟩ := h
  exact Blk.lt hd
theorem DeckOk.below {w w' : World} {g : Nat} (h : DeckOk w g) (hb : Below w.heap.size w w') : DeckOk w' g := by
  have hlt := h.lt
  obtain ⟨A, l, c, a, hd, hi, hn, hl, ha⟩ := h
  exact ⟨A, l, c, a, Blk.below hd hb, hi.below (hb.mono (by omega)), hn, hl, ha⟩
/-- The world grew, but for the deck at g, which is one still. -/
def Gr (g : Nat) (w w' : World) : Prop := w.grownBy w' (some g) ∧ (DeckOk w g → DeckOk w' g)
theorem Gr.refl {g : Nat} (w : World) : Gr g w w := ⟨.refl _ _, id⟩
theorem Gr.trans {g : Nat} {a b c : World} (h1 : Gr g a b) (h2 : Gr g b c) : Gr g a c := ⟨h1.1.trans h2.1, fun h => h2.2 (h1.2 h)⟩
theorem grown_of_below {w w' : World} {row : Option Nat} (hb : Below w.heap.size w w') : w.grownBy w' row := ⟨hb.os, hb.tape, hb.output, hb.size, fun k hk _ => hb.block k hk⟩
theorem Gr.of_below {g : Nat} {w w' : World} (hb : Below w.heap.size w w') : Gr g w w' := ⟨grown_of_below hb, fun h => h.below hb⟩
theorem Gr.drew {g : Nat} (w : World) (n : Nat) : Gr g w (w.drewN n) := Gr.of_below (below_drewN (Below.refl _ _))
theorem Gr.size {g : Nat} {w w' : World} (h : Gr g w w') : w.heap.size ≤ w'.heap.size := h.1.size
theorem Gr.base {g : Nat} {w0 w w' : World} (h : Gr g w w') (h0 : Below w0.heap.size w0 w) (hg : w0.heap.size ≤ g) : Below w0.heap.size w0 w' :=
  h0.grown h.1 h0.size (fun k e => by injection e with e; omega)
theorem Gr.blk {g b : Nat} {w w' : World} {t : TypeId} {cs : Array Value} (h : Gr g w w') (hb : Blk w b t cs) (hne : b ≠ g) : Blk w' b t cs := (h.1.block b hb.lt (fun e => hne (Option.some.inj e))).trans hb
theorem next_ok (g : Nat) (n : Int) (w : World) (hd : DeckOk w g) (h0 : 0 < n) (h1 : n ≤ 4294967296) :
    Calls Try.prog 32 #[.pointer (some ⟨g, 0, none⟩), .int .i64 n] w fun e w' => Gr g w w' ∧ DeckOk w' g ∧ ∃ x : Int, 0 ≤ x ∧ x < n ∧ e = .returned (.int .i64 x) := by
  obtain ⟨A, l, c, a, hd, hi, hn, hl, ha⟩ := hd
  refine (next_any A l c g a n w hi hn hl ha hd h0 h1).mono ?_
  rintro e w' ⟨rfl, hd', hg'⟩
  have hI : Ints .i64 w' g A l := fun h0 => by
    obtain ⟨b, off, hA, hB, hc⟩ := hi h0
    refine ⟨b, off, hA, hB, fun i hi => ?_⟩
    rw [← hc i hi]
    exact World.cell?_of_block (hg'.block b (by have := Blk.lt hd; omega) (fun e => by have := Option.some.inj e; omega))
  have hok : DeckOk w' g := ⟨A, l, c, _, hd', hI, hn, hl, nxA_le ha⟩
  exact ⟨⟨hg', fun _ => hok⟩, hok, _, (nxV_bd l a h0).1, (nxV_bd l a h0).2, rfl⟩
theorem range_ok (g : Nat) (lo hi : Int) (w : World) (hd : DeckOk w g) (h0 : 0 ≤ lo) (h1 : lo ≤ hi) (h2 : hi ≤ 1000000) :
    Calls Try.prog 33 #[.pointer (some ⟨g, 0, none⟩), .int .i64 lo, .int .i64 hi] w fun e w' => Gr g w w' ∧ DeckOk w' g ∧ ∃ x : Int, lo ≤ x ∧ x ≤ hi ∧ e = .returned (.int .i64 x) := by
  go_enter Try.func33, Try.ntmps33
  go_wp2_with fail
  refine (next_ok g _ w hd (by omega) (by omega)).mono ?_
  rintro e w' ⟨hg, hd', x, x0, x1, rfl⟩
  go_wp2
  go_ret
  exact ⟨hg, hd', lo + x, by omega, by omega, rfl⟩
theorem new_ok (A : Option Addr) (l : List Int) (c : Nat) (w : World) (hs : Ints .i64 w w.heap.size A l) (hn : Nums l) (hl : l.length ≤ 9223372036854775807) :
    Calls Try.prog 13 #[.slice A l.length c] w fun e w' => e = .returned (.pointer (some ⟨w.heap.size, 0, none⟩)) ∧ DeckOk w' w.heap.size ∧ Below w.heap.size w w' ∧ w.heap.size < w'.heap.size := by
  refine (new_deck A l c w).mono ?_
  rintro e w' ⟨rfl, hd, hb, hs'⟩
  exact ⟨rfl, ⟨A, l, c, 0, hd, hs.below hb, hn, hl, by omega⟩, hb, hs'⟩
theorem DeckOk.grown {a b : World} {g : Nat} {row : Option Nat} (h : DeckOk a g) (hg : a.grownBy b row) (hr : ∀ k, row = some k → g < k) : DeckOk b g := by
  have hlt := h.lt
  obtain ⟨A, l, c, x, hd, hi, hn, hl, ha⟩ := h
  refine ⟨A, l, c, x, (hg.block g hlt (fun e => by have := hr g e.symm; omega)).trans hd, fun h0 => ?_, hn, hl, ha⟩
  obtain ⟨bb, off, hA, hB, hc⟩ := hi h0
  refine ⟨bb, off, hA, hB, fun i hi => ?_⟩
  rw [← hc i hi]
  exact World.cell?_of_block (hg.block bb (by omega) (fun e => by have := hr bb e.symm; omega))
theorem Gr.more {g : Nat} {w a b : World} {row : Option Nat} (h : Gr g w a) (hd : DeckOk a g) (hgw : g < w.heap.size) (hg : a.grownBy b row) (hr : ∀ k, row = some k → w.heap.size ≤ k) : Gr g w b ∧ DeckOk b g := by
  have hdb := hd.grown hg (fun k e => by have := hr k e; omega)
  refine ⟨⟨⟨hg.os.trans h.1.os, hg.tape.trans h.1.tape, hg.output.trans h.1.output, Nat.le_trans h.1.size hg.size, fun k hk hne => ?_⟩, fun _ => hdb⟩, hdb⟩
  exact (hg.block k (Nat.lt_of_lt_of_le hk h.1.size) (fun e => by have := hr k e.symm; omega)).trans (h.1.block k hk hne)
theorem grownBy_set (a : World) (g i : Nat) (u : Value) : a.grownBy (a.setCell ⟨g, i, none⟩ u) (some g) := grownBy_setAt (.refl _ _) g i u
theorem Gr.frame {g b : Nat} {w a : World} {t : TypeId} {cs : Array Value} (h : Gr g w a) (hb : Blk w b t cs) (hne : b ≠ g) : Blk a b t cs := h.blk hb hne
theorem Blk.grown {w w' : World} {g : Nat} {t : TypeId} {cs : Array Value} {row : Option Nat} (h : Blk w g t cs) (hb : w.grownBy w' row) (hg : row ≠ some g) : Blk w' g t cs := (hb.block g h.lt (fun e => hg e.symm)).trans h
theorem Blk.at {w : World} {g : Nat} {t : TypeId} {cs : Array Value} (h : Blk w g t cs) (i : Nat) {v : Value} (hv : cs[i]? = some v) : w.cell? ⟨g, i, none⟩ = some v := (h.cell i).trans hv
theorem Gr.set {g b i : Nat} {w a : World} (h : Gr g w a ∧ DeckOk a g) (hgw : g < w.heap.size) (u : Value) (hb : w.heap.size ≤ b) : Gr g w (a.setCell ⟨b, i, none⟩ u) ∧ DeckOk (a.setCell ⟨b, i, none⟩ u) g :=
  h.1.more h.2 hgw (grownBy_set a b i u) (fun k e => by injection e with e; omega)
theorem Ints.far {k : IntKind} {w : World} {B b i : Nat} {A : Option Addr} {l : List Int} (h : Ints k w B A l) (hp : ∀ a, A = some a → a.block ≠ b) (v : Value) : Ints k (w.setCell ⟨b, i, none⟩ v) B A l := fun h0 => by
  obtain ⟨b', off, rfl, hB, hc⟩ := h h0
  refine ⟨b', off, rfl, hB, fun i hi => ?_⟩
  rw [← hc i hi]
  exact World.cell?_of_block (Below.heap_setCell _ _ _ _ (fun e => hp _ rfl e))
theorem size_set (w : World) (b i : Nat) (v : Value) : (w.setCell ⟨b, i, none⟩ v).heap.size = w.heap.size := by simp [World.setCell]
theorem Ints.gr {g : Nat} {k : IntKind} {w w' : World} {A : Option Addr} {l : List Int} (h : Ints k w w.heap.size A l) (hg : Gr g w w') (hne : ∀ a, A = some a → a.block ≠ g) : Ints k w' w'.heap.size A l := fun h0 => by
  obtain ⟨b, off, rfl, hB, hc⟩ := h h0
  refine ⟨b, off, rfl, Nat.lt_of_lt_of_le hB hg.size, fun i hi => ?_⟩
  rw [← hc i hi]
  exact World.cell?_of_block (hg.1.block b hB (fun e => by injection e with e; exact hne _ rfl e))
theorem Gr.cell {g b o : Nat} {w w' : World} (h : Gr g w w') (hB : b < w.heap.size) (hne : b ≠ g) : w'.cell? ⟨b, o, none⟩ = w.cell? ⟨b, o, none⟩ :=
  World.cell?_of_block (h.1.block b hB (fun e => by injection e with e; exact hne e))
end Go.Proofs.Ytkpbkahmbbkcdaa
