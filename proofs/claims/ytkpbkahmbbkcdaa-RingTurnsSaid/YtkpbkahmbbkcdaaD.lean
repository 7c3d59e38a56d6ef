/-
  The helpers of the laws that draw from a list of numbers: the remainder, the deck and its next number. Conditions: the divisors are positive.
-/
import Derived.Test.YtkpbkahmbbkcdaaK
import Derived.BigQuiet
import Derived.Deep.QuietTactic
namespace Go.Proofs.Ytkpbkahmbbkcdaa
open Go.ChangeShapes Go.WideShapes Go.RowKit
set_option linter.unusedVariables false

/-- The remainder that is never negative, of a positive divisor. -/
def modI (a m : Int) : Int := if a.tmod m < 0 then a.tmod m + m else a.tmod m
theorem modI_bd (a m : Int) (h : 0 < m) : 0 ≤ modI a m ∧ modI a m < m := by
  have h1 := Int.tmod_lt_of_pos a h
  have h2 : -m < a.tmod m := by have := Int.lt_tmod_of_pos a h; omega
  unfold modI; split <;> omega
theorem mod_any (a m : Int) (h0 : 0 < m) (h1 : m ≤ 4294967296) (ha : -9223372036854775808 ≤ a) (hb : a ≤ 9223372036854775807) (w : World) : Calls Try.prog 24 #[.int .i64 a, .int .i64 m] w fun e w' => e = .returned (.int .i64 (modI a m)) ∧ w = w' := by
  have g1 := Int.tmod_lt_of_pos a h0
  have g2 : -m < a.tmod m := by have := Int.lt_tmod_of_pos a h0; omega
  have g0 : (m == 0) = false := by simp; omega
  go_enter Try.func24, Try.ntmps24
  go_wp2
  all_goals go_ret
  all_goals exact ⟨by simp_all [modI]; try omega, rfl⟩
theorem mod_q (a m : Int) (h0 : 0 < m) (h1 : m ≤ 4294967296) (ha : -9223372036854775808 ≤ a) (hb : a ≤ 9223372036854775807) (w : World) : Calls Try.prog 24 #[.int .i64 a, .int .i64 m] w fun e w' => e = .returned (.int .i64 (modI a m)) ∧ w' = w :=
  (mod_any a m h0 h1 ha hb w).mono fun _ _ h => ⟨h.1, h.2.symm⟩
/-- The next number of a deck, and where the deck then is. -/
def nxV (l : List Int) (a : Nat) (n : Int) : Int := if a < l.length then modI (at_ l a) n else 0
def nxA (l : List Int) (a : Nat) : Nat := if a < l.length then a + 1 else a
theorem nxA_le {l : List Int} {a : Nat} (h : a ≤ l.length) : nxA l a ≤ l.length := by unfold nxA; split <;> omega
theorem nxV_bd (l : List Int) (a : Nat) {n : Int} (h : 0 < n) : 0 ≤ nxV l a n ∧ nxV l a n < n := by
  unfold nxV; split
  · exact modI_bd _ _ h
  · omega
/-- A deck lies at g. -/
def Deck (w : World) (g : Nat) (A : Option Addr) (l : List Int) (c a : Nat) : Prop := Blk w g 58 #[.slice A l.length c, .int .i64 a]
theorem Deck.two {w : World} {g : Nat} {A : Option Addr} {l : List Int} {c a : Nat} (h : Deck w g A l c a) : w.cell? ⟨g, 0, none⟩ = some (.slice A l.length c) ∧ w.cell? ⟨g, 1, none⟩ = some (.int .i64 a) ∧ w.frozen? ⟨g, 1, none⟩ = false :=
  ⟨Blk.cell h 0, Blk.cell h 1, Blk.frozen h 1⟩
theorem Blk.drewN {w : World} {g : Nat} {t : TypeId} {cs : Array Value} (h : Blk w g t cs) (n : Nat) : Blk (w.drewN n) g t cs := h.below (below_drewN (Below.refl _ _))
theorem grownBy_drewN {w w' : World} {row : Option Nat} (h : w.grownBy w' row) (n : Nat) : w.grownBy (w'.drewN n) row := by
  have hb : Below w'.heap.size w' (w'.drewN n) := below_drewN (Below.refl _ _)
  exact ⟨hb.os.trans h.os, hb.tape.trans h.tape, hb.output.trans h.output, Nat.le_trans h.size hb.size, fun k hk hr => (hb.block k (Nat.lt_of_lt_of_le hk h.size)).trans (h.block k hk hr)⟩
theorem grownBy_setAt {w w' : World} {g : Nat} (h : w.grownBy w' (some g)) (g' i : Nat) (u : Value) (e : g = g' := by rfl) : w.grownBy (w'.setCell ⟨g', i, none⟩ u) (some g) := by
  subst e
  exact ⟨h.os, h.tape, h.output, by simpa [World.setCell] using h.size, fun k hk hr => (Below.heap_setCell _ _ _ _ (fun e => hr (by rw [e]))).trans (h.block k hk hr)⟩
theorem next_any (A : Option Addr) (l : List Int) (c g a : Nat) (n : Int) (w : World) (hs : Ints .i64 w g A l) (hn : Nums l) (hl : l.length ≤ 9223372036854775807) (ha : a ≤ l.length) (hd : Deck w g A l c a) (h0 : 0 < n) (h1 : n ≤ 4294967296) :
    Calls Try.prog 32 #[.pointer (some ⟨g, 0, none⟩), .int .i64 n] w fun e w' => e = .returned (.int .i64 (nxV l a n)) ∧ Deck w' g A l c (nxA l a) ∧ w.grownBy w' (some g) := by
  obtain ⟨c0, c1, f1⟩ := hd.two
  go_enter Try.func32, Try.ntmps32
  by_cases hlt : a < l.length
  · obtain ⟨b, off, rfl, hbg, hc⟩ := hs (by omega)
    have hcell := hc a hlt
    have hat := hn _ (at_mem hlt)
    have hne : b ≠ g := by omega
    have d1 : (w.setCell ⟨g, 1, none⟩ (.int .i64 (a + 1))).cell? ⟨b, off + a, none⟩ = some (.int .i64 (at_ l a)) := by
      rw [← hcell]; exact World.cell?_of_block (Below.heap_setCell _ _ _ _ hne)
    have hd2 := Blk.set_ hd 1 (.int .i64 (a + 1))
    have d0 := Blk.cell hd2 0
    have d2 := Blk.cell hd2 1
    clear hc hs
    go_wp2_with (go_quiet (fail))
    go_quiet ((go_at_call 24; exact Calls.quiet_of_same (mod_q _ _ (by omega) (by omega) (by omega) (by omega) _)))
    go_wp2
    go_ret
    refine ⟨by rw [nxV, if_pos hlt]; rfl, ?_, ?_⟩
    · rw [nxA, if_pos hlt]
      exact Blk.drewN (Blk.set_ (Blk.drewN hd _) 1 _) _
    · exact grownBy_drewN (grownBy_setAt (grownBy_drewN (.refl _ _) _) g 1 _) _
  · go_wp2_with (go_quiet (fail))
    go_ret
    refine ⟨by rw [nxV, if_neg hlt]; rfl, by rw [nxA, if_neg hlt]; exact Blk.drewN hd _, grownBy_drewN (.refl _ _) _⟩
theorem range_any (A : Option Addr) (l : List Int) (c g a : Nat) (lo hi : Int) (w : World) (hs : Ints .i64 w g A l) (hn : Nums l) (hl : l.length ≤ 9223372036854775807) (ha : a ≤ l.length) (hd : Deck w g A l c a) (h0 : 0 ≤ lo) (h1 : lo ≤ hi) (h2 : hi ≤ 1000000) :
    Calls Try.prog 33 #[.pointer (some ⟨g, 0, none⟩), .int .i64 lo, .int .i64 hi] w fun e w' => e = .returned (.int .i64 (lo + nxV l a (hi - lo + 1))) ∧ Deck w' g A l c (nxA l a) ∧ w.grownBy w' (some g) := by
  have hb := nxV_bd l a (n := hi - lo + 1) (by omega)
  go_enter Try.func33, Try.ntmps33
  go_wp2_with fail
  refine (next_any A l c g a _ w hs hn hl ha hd (by omega) (by omega)).mono ?_
  rintro e w' ⟨rfl, hd', hg'⟩
  go_wp2
  go_ret
  exact ⟨rfl, hd', hg'⟩
theorem new_deck (A : Option Addr) (l : List Int) (c : Nat) (w : World) :
    Calls Try.prog 13 #[.slice A l.length c] w fun e w' => e = .returned (.pointer (some ⟨w.heap.size, 0, none⟩)) ∧ Deck w' w.heap.size A l c 0 ∧ Below w.heap.size w w' ∧ w.heap.size < w'.heap.size := by
  go_enter Try.func13, Try.ntmps13
  go_wp2
  go_ret
  exact ⟨rfl, Blk.new, lat_alloc (Below.refl _ _) _, by rw [heap_size]; omega⟩
end Go.Proofs.Ytkpbkahmbbkcdaa
