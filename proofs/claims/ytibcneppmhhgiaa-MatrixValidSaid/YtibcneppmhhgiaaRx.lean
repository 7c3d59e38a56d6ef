/-
  The rows of conflicts that the laws of layer 6 draw from a list of numbers: the walk. Conditions: none.
-/
import Derived.Test.YtibcneppmhhgiaaRo
import Derived.Deep.OwnRows
namespace Go.Proofs.Ytibcneppmhhgiaa
open Go.ChangeShapes Go.WideShapes Go.RowKit
set_option linter.unusedVariables false

theorem int_info : (Try.prog.info? 3).map (fun i => (i.zero, i.size, i.bytes)) = some (some (.int .i64 0), 1, 8) := by kernel_rfl
theorem grownBy_new {w w' : World} {row : Option Nat} (h : w.grownBy w' row) {p : Addr} (hp : w.heap.size ≤ p.block) (u : Value) : w.grownBy (w'.setCell p u) row :=
  ⟨h.os, h.tape, h.output, by simpa [World.setCell] using h.size, fun k hk hr => (Below.heap_setCell _ _ _ _ (by omega)).trans (h.block k hk hr)⟩
theorem grownBy_alloc' {w w' : World} {row : Option Nat} (h : w.grownBy w' row) (o : Obj) : w.grownBy (w'.alloc o) row :=
  ⟨h.os, h.tape, h.output, Nat.le_trans h.size (by simp), fun k hk hr => (Below.heap_alloc _ _ _ (Nat.lt_of_lt_of_le hk h.size)).trans (h.block k hk hr)⟩
theorem grownBy_trans {a b c : World} {row : Option Nat} (h : a.grownBy b row) (k : b.grownBy c row) : a.grownBy c row :=
  ⟨k.os.trans h.os, k.tape.trans h.tape, k.output.trans h.output, Nat.le_trans h.size k.size, fun i hi hr => (k.block i (Nat.lt_of_lt_of_le hi h.size) hr).trans (h.block i hi hr)⟩
theorem grownBy_below {w w' : World} {g : Nat} (h : w.grownBy w' (some g)) : Below g w w' ∨ w.heap.size < g := by
  rcases Nat.lt_or_ge w.heap.size g with hh | hh
  · exact .inr hh
  · exact .inl ⟨h.os, h.tape, h.output, h.size, fun k hk => h.block k (by omega) (fun e => by injection e with e; omega)⟩
theorem Ints.deck {w w' : World} {g : Nat} {A : Option Addr} {l : List Int} (h : Ints .i64 w g A l) (hg : w.grownBy w' (some g)) (hlt : g < w.heap.size) : Ints .i64 w' g A l := by
  rcases grownBy_below hg with hb | hb
  · exact h.below hb
  · omega
theorem made_zeros (n : Nat) : (madeCells #[Value.int .i64 0] n).toList = (List.replicate n (0 : Int)).map (Value.int .i64) := by
  unfold madeCells
  simp [Nat.mod_one, List.map_const']
/-- What holds in the loops of rows. -/
structure RowsRel (w W : World) (g n gc : Nat) (A : Option Addr) (l : List Int) (cp : Nat) (a : Nat) (c : List Int) : Prop where
  ok : RowsOk n c
  own : Own .i64 3 W w.heap.size (.slice (some ⟨gc, 0, none⟩) n n) c
  deck : Deck W g A l cp a
  ints : Ints .i64 W g A l
  at_le : a ≤ l.length
  grew : w.grownBy W (some g)
  new_ : w.heap.size ≤ gc
theorem rows_any (A : Option Addr) (l : List Int) (cp g : Nat) (w : World) (hs : Ints .i64 w g A l) (hn : Nums l) (hl : l.length ≤ 9223372036854775807) (hd : Deck w g A l cp 0) :
    Calls Try.prog 8 #[.pointer (some ⟨g, 0, none⟩)] w fun e w' => ∃ (n gc : Nat) (c : List Int) (a : Nat), 1 ≤ n ∧ n ≤ 8 ∧ e = .returned (.slice (some ⟨gc, 0, none⟩) n n) ∧ RowsRel w w' g n gc A l cp a c := by
  have hgw := Blk.lt hd
  have hbd := nxV_bd l 0 (n := 8) (by omega)
  go_enter Try.func8, Try.ntmps8
  go_wp2_with fail
  refine (range_any A l cp g 0 1 8 _ hs hn hl (by omega) hd (by omega) (by omega) (by omega)).mono ?_
  rintro e w1 ⟨rfl, hd1, hg1⟩
  have hs1 := hs.deck hg1 hgw
  have ha1 := nxA_le (l := l) (a := 0) (by omega)
  rw [show (8 : Int) - 1 + 1 = 8 by omega]
  generalize nxV l 0 8 = x at *
  obtain ⟨n, hx⟩ : ∃ n : Nat, 1 + x = n := ⟨(1 + x).toNat, by omega⟩
  rw [hx]
  have hn1 : 1 ≤ n := by omega
  have hn8 : n ≤ 8 := by omega
  clear hx hbd hs
  generalize nxA l 0 = a at *
  go_wp2_with (obtain ⟨ii, hi0, hi1, hi2, hi3⟩ := info_parts int_info; refine wpList_make_row _ rfl _ _ 22 rfl 3 ii (.int .i64 0) Try.underlying22 hi0 hi1 hi2 rfl .i64 .i64 n rfl rfl (by rw [hi3]; omega) (by omega) ?_)
  have hlen0 := (List.length_replicate (n := n) (a := (0 : Int)))
  have hR : RowsRel w (w1.alloc (.cells (madeCells #[.int .i64 0] n) 3)) g n w1.heap.size A l cp a (List.replicate n 0) := by
    have hown := own_new (k := .i64) (e := 3) (w := w1) (base := w.heap.size) (madeCells #[.int .i64 0] n) (List.replicate n 0) (made_zeros n) hg1.size (by rw [hlen0]; omega)
    rw [hlen0] at hown
    exact ⟨RowsOk.none_ n, hown, Blk.alloc hd1 _, hs1.below (Below.alloc (Below.refl _ _) (Nat.le_trans (Nat.le_of_lt hgw) hg1.size) _), ha1, grownBy_alloc' hg1 _, hg1.size⟩
  generalize w1.alloc (.cells (madeCells #[.int .i64 0] n) 3) = W at *
  generalize w1.heap.size = gc at *
  generalize List.replicate n (0 : Int) = c0 at *
  clear hlen0 hd1 hg1 hs1 ha1
  go_loopw [12] (fun v Wr => ∃ (k a' : Nat) (c : List Int), k ≤ n ∧ v = .int .i64 k ∧ RowsRel w Wr g n gc A l cp a' c) (fun v _ => n - (intOf v).toNat)
  case atStart => exact ⟨0, a, c0, by omega, rfl, hR⟩
  case round =>
    obtain ⟨k, a', c, hk, rfl, hr⟩ := hrel
    by_cases hlt : k < n
    · go_wp2
      go_loopw [16] (fun v Wr => ∃ (q a' : Nat) (c : List Int), q ≤ k ∧ v = .int .i64 q ∧ RowsRel w Wr g n gc A l cp a' c) (fun v _ => k - (intOf v).toNat)
      case atStart => exact ⟨0, a', c, by omega, rfl, hr⟩
      case round =>
        rename_i W2
        obtain ⟨q, a2, c2, hq, rfl, hr2⟩ := hrel
        by_cases hltq : q < k
        · go_wp2_with fail
          refine (next_any A l cp g a2 2 _ hr2.ints hn hl hr2.at_le hr2.deck (by omega) (by omega)).mono ?_
          rintro e w3 ⟨rfl, hd3, hg3⟩
          have hr3 : RowsRel w w3 g n gc A l cp (nxA l a2) c2 := ⟨hr2.ok, hr2.own.block fun b hb => by
              have hb' : gc = b := by simpa [Value.ownBlock] using hb
              subst hb'
              exact hg3.block gc (hr2.own.lt rfl).2 (fun e => by injection e with e; have := hr2.new_; omega), hd3, hr2.ints.deck hg3 (Blk.lt hr2.deck), nxA_le hr2.at_le, grownBy_trans hr2.grew hg3, hr2.new_⟩
          clear hr2 hd3 hg3
          have hc2 := hr3.ok.len
          obtain ⟨d0, f0⟩ := hr3.own.cell (i := k) (by omega)
          obtain ⟨d1, f1⟩ := hr3.own.cell (i := q) (by omega)
          have E1 := or_with (hr3.ok.lo k hlt) hn8 (show q < n by omega)
          have E2 := or_with (hr3.ok.lo q (by omega)) hn8 hlt
          have hr4 : RowsRel w ((w3.setCell ⟨gc, k, none⟩ (.int .i64 (withB (at_ c2 k) q))).setCell ⟨gc, q, none⟩ (.int .i64 (withB (at_ c2 q) k))) g n gc A l cp (nxA l a2) ((c2.set k (withB (at_ c2 k) q)).set q (withB (at_ c2 q) k)) := by
            have hne : g ≠ gc := by have := hr3.new_; omega
            have hgs : g < w3.heap.size := Blk.lt hr3.deck
            have hgc : g < gc := by have := hr3.new_; omega
            refine ⟨hr3.ok.join hlt (by omega) (by omega), (hr3.own.set (by omega) _).set (by rw [List.length_set]; omega) _, Blk.far (Blk.far hr3.deck hne _) hne _, ?_, hr3.at_le, grownBy_new (grownBy_new hr3.grew hr3.new_ _) hr3.new_ _, hr3.new_⟩
            exact (hr3.ints.below (Below.setCell (Below.refl _ _) (Nat.le_of_lt hgc) _)).below (Below.setCell (Below.refl _ _) (Nat.le_of_lt hgc) _)
          by_cases h1 : nxV l a2 2 = 1
          · rw [h1]
            go_wp2
            go_roundw
            case rel => exact ⟨q + 1, _, _, by omega, by go_num, hr4⟩
            case measure => simp [intOf]; omega
          · have h1' : (nxV l a2 2 == 1) = false := by simpa using h1
            go_wp2
            go_roundw
            case rel => exact ⟨q + 1, _, c2, by omega, by go_num, hr3⟩
            case measure => simp [intOf]; omega
        · go_wp2
          go_roundw
          case rel => exact ⟨k + 1, a2, c2, by omega, by go_num, hr2⟩
          case measure => simp [intOf]; omega
    · go_wp2
      go_ret
      exact ⟨n, gc, c, a', hn1, hn8, rfl, hr⟩
end Go.Proofs.Ytibcneppmhhgiaa
