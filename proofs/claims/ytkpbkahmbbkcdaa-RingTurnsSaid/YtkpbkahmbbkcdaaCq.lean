/-
  Which phase the program's ring is to begin, with a target. Conditions: as many rows as phases; a next phase of -1 or more.
-/
import Derived.Test.YtkpbkahmbbkcdaaCd
import Derived.Test.YtkpbkahmbbkcdaaMu
import Derived.BigQuiet
namespace Go.Proofs.Ytkpbkahmbbkcdaa
open Go.ChangeShapes Go.WideShapes Go.RowKit
set_option linter.unusedVariables false

theorem load_int {w : World} {g : Nat} {a : Int} (h : Blk w g 3 #[.int .i64 a]) : (loadVar 3 ⟨g, 0, none⟩).run Try.prog w = .ok (.int .i64 a) w := by
  have c0 := Blk.cell h 0
  go_simp
set_option maxRecDepth 100000 in
set_option maxHeartbeats 4000000 in
theorem pcand_own (B : Option Addr) (b off bE oE cP d n cX : Nat) (P : List Ph) (C nx : List Int) (vL : Value) (st g wt : Int) (r t : Nat) (w : World) (hb : b < w.heap.size) (hph : ∀ i, i < n → PhHere w b (off + i * 8) (phAt P i)) (ht : t < n) (heq : (phAt P t).ri = r) :
    Calls Try.prog 50 #[.agg #[.slice (some ⟨b, off, none⟩) n cP, .slice B n d, .int .i64 st], .agg #[vL, .int .i64 g, .slice (some ⟨bE, oE, none⟩) 2 cX, .int .i64 wt], .int .i64 r, .int .i64 t] w fun e w' => e = .returned (.int .i64 t) ∧ Below w.heap.size w w' := by
  have bW : Below w.heap.size w (((((w.alloc (.cells #[.slice (some ⟨b, off, none⟩) n cP, .slice B n d, .int .i64 st] 30)).alloc (.cells #[vL, .int .i64 g, .slice (some ⟨bE, oE, none⟩) 2 cX, .int .i64 wt] 25)).alloc (.cells #[.int .i64 ((r : Nat) : Int)] 3)).alloc (.cells #[.int .i64 (((t : Nat) : Int))] 3)).alloc (.cells #[.int .i64 0] 3)) := lat_alloc (lat_alloc (lat_alloc (lat_alloc (lat_alloc (Below.refl w.heap.size w) _) _) _) _) _
  obtain ⟨x0, x1, x2, x3, x4, x5, x6, x7⟩ := (hph t ht).block (bW.block b hb)
  have htZ : ((t : Nat) : Int) < n := by omega
  clear x1 x2 x3 x4 x5 x6 x7
  have bR := Blk.new (w := ((((w.alloc (.cells #[.slice (some ⟨b, off, none⟩) n cP, .slice B n d, .int .i64 st] 30)).alloc (.cells #[vL, .int .i64 g, .slice (some ⟨bE, oE, none⟩) 2 cX, .int .i64 wt] 25)).alloc (.cells #[.int .i64 ((r : Nat) : Int)] 3)).alloc (.cells #[.int .i64 (((t : Nat) : Int))] 3))) (t := 3) (cs := #[.int .i64 0])
  have bT := (Blk.new (w := ((w.alloc (.cells #[.slice (some ⟨b, off, none⟩) n cP, .slice B n d, .int .i64 st] 30)).alloc (.cells #[vL, .int .i64 g, .slice (some ⟨bE, oE, none⟩) 2 cX, .int .i64 wt] 25)).alloc (.cells #[.int .i64 ((r : Nat) : Int)] 3)) (t := 3) (cs := #[.int .i64 ((t : Nat) : Int)])).alloc (.cells #[.int .i64 0] 3)
  simp only [World.size_alloc] at bR bT
  have z1 : (((r : Nat) : Int) == (phAt P t).ri) = true := by rw [heq]; simp
  have z2 : (((t : Nat) : Int) == -1) = false := by simp
  rw [heq] at x0 z1
  clear heq hph
  go_enter Try.func50, Try.ntmps50
  go_wp2
  go_quiet (fail)
  have b2 := bR.drewN nq
  have bT2 := bT.drewN nq
  have b3 := below_drewN bW (n := nq)
  generalize (World.drewN _ nq) = V at *
  have r0 := b2.at 0 rfl
  have rf := b2.frozen 0
  have t0 := bT2.at 0 rfl
  go_wp2
  refine bodyPost_ret (results_cell rfl rfl (load_int (b2.set_ 0 _))) rfl ?_
  exact ⟨rfl, b3.setCell (p := ⟨w.heap.size + 1 + 1 + 1 + 1, 0, none⟩) (by show w.heap.size ≤ w.heap.size + 1 + 1 + 1 + 1; omega) _⟩
theorem pcand_on (B : Option Addr) (b off bE oE cP d n cX : Nat) (P : List Ph) (C nx : List Int) (vL : Value) (st g wt : Int) (r t : Nat) (w : World) (hl : n ≤ 60) (hr : r < 2) (hX2 : nx.length = 2) (hbE : bE < w.heap.size) (hX : ∀ i, i < 2 → w.cell? ⟨bE, oE + i, none⟩ = some (.int .i64 (at_ nx i))) (hb : b < w.heap.size) (hph : ∀ i, i < n → PhHere w b (off + i * 8) (phAt P i)) (hCn : C.length = n) (hC : Ints .i64 w w.heap.size B C) (ht : t < n) (hnx : -1 ≤ at_ nx r) :
    Calls Try.prog 50 #[.agg #[.slice (some ⟨b, off, none⟩) n cP, .slice B n d, .int .i64 st], .agg #[vL, .int .i64 g, .slice (some ⟨bE, oE, none⟩) 2 cX, .int .i64 wt], .int .i64 r, .int .i64 t] w fun e w' => e = .returned (.int .i64 (candV P C n (at_ nx r) r t)) ∧ Below w.heap.size w w' := by
  by_cases h : (phAt P t).ri = r
  · have := pcand_own B b off bE oE cP d n cX P C nx vL st g wt r t w hb hph ht h
    rw [show candV P C n (at_ nx r) r t = t by unfold candV; rw [if_pos h]]
    exact this
  · exact pcand_loop B b off bE oE cP d n cX P C nx vL st g wt r t w hl hr hX2 hbE hX hb hph hCn hC ht hnx h
end Go.Proofs.Ytkpbkahmbbkcdaa
