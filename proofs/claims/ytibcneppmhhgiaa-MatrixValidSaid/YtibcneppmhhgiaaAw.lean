/-
  The sanity check of layer 6's laws, and the law MatrixSets: its walk. Conditions: none.
-/
import Derived.Test.YtibcneppmhhgiaaVa
import Derived.Test.YtibcneppmhhgiaaRx
namespace Go.Proofs.Ytibcneppmhhgiaa
open Go.ChangeShapes Go.WideShapes Go.RowKit
set_option linter.unusedVariables false

theorem ex_clash : Clashes [2, 1, 0] 3 0 1 := .inr ⟨0, 1, rfl, rfl, by decide, by decide, by decide, fun i' j' h => by omega, fun j' h => by
  have : j' = 0 := by omega
  subst this; decide⟩
theorem ex_none : Clashes [2, 1, 0] 5 (-1) (-1) := .inl ⟨rfl, rfl, fun i j hi hj => by
  have h : ∀ i < 3, ∀ j < 3, pairB [2, 1, 0] 5 i j = false := by decide
  exact h i hi j hj⟩
theorem ex_valid : Valid6 [2, 1, 0] := by
  refine ⟨by decide, by decide, ?_⟩
  have h : ∀ p < 3, 0 ≤ at_ [2, 1, 0] p ∧ at_ [2, 1, 0] p < 2 ^ 3 ∧ hasB (at_ [2, 1, 0] p) p = false ∧ ∀ q < 3, hasB (at_ [2, 1, 0] p) q = true → hasB (at_ [2, 1, 0] q) p = true := by decide
  exact fun p hp => ⟨(h p hp).1, (h p hp).2.1, (h p hp).2.2.1, fun q hq => (h p hp).2.2.2 q hq⟩
theorem ex_alw : ((alw [2, 1, 0] 1 3 : Nat) : Int) = 4 := by decide
theorem awake_any (w : World) : Calls Try.prog 7 #[] w fun e w' => e = .returned (.bool true) ∧ Below w.heap.size w w' := by
  go_enter Try.func7, Try.ntmps7
  have hi : Ints .i64 (w.alloc (.cells #[.int .i64 2, .int .i64 1, .int .i64 0] 3)) (w.alloc (.cells #[.int .i64 2, .int .i64 1, .int .i64 0] 3)).heap.size (some ⟨w.heap.size, 0, none⟩) [2, 1, 0] :=
    ints_new (fun i hi => by
      have h3 : i < 3 := hi
      match i, h3 with
      | 0, _ => rfl
      | 1, _ => rfl
      | 2, _ => rfl)
  have hb : Below w.heap.size w (w.alloc (.cells #[.int .i64 2, .int .i64 1, .int .i64 0] 3)) := lat_alloc (Below.refl _ _) _
  have V := valid6_t ex_valid
  have A4 := ex_alw
  go_wp2_with fail
  generalize w.alloc (.cells #[.int .i64 2, .int .i64 1, .int .i64 0] 3) = W at *
  refine (clash_any _ [2, 1, 0] 3 _ 3 W hi (by decide)).mono ?_; rintro e w' ⟨p, q, rfl, hc, rfl⟩
  obtain ⟨rfl, rfl⟩ := hc.one ex_clash
  clear hc
  go_wp2_with fail
  refine (clash_any _ [2, 1, 0] 3 _ 5 _ hi (by decide)).mono ?_; rintro e w' ⟨p, q, rfl, hc, rfl⟩
  obtain ⟨rfl, rfl⟩ := hc.one ex_none
  clear hc
  go_wp2_with fail
  refine (valid_any _ [2, 1, 0] 3 _ _ hi).mono ?_; rw [V]; rintro e w' ⟨rfl, rfl⟩
  go_wp2_with fail
  refine (allowed_any _ [2, 1, 0] 3 _ 1 _ hi (by decide)).mono ?_; rw [show ([2, 1, 0] : List Int).length = 3 from rfl, A4]; rintro e w' ⟨rfl, rfl⟩
  go_wp2
  go_ret
  exact ⟨rfl, hb⟩
/-- What a law has of its rows: a slice of its own, rows as they are, nothing below turned. -/
structure Drawn (w W : World) (n gc : Nat) (c : List Int) : Prop where
  ok : RowsOk n c
  own : Own .i64 3 W w.heap.size (.slice (some ⟨gc, 0, none⟩) n n) c
  below : Below w.heap.size w W
theorem Drawn.ints {w W : World} {n gc : Nat} {c : List Int} (h : Drawn w W n gc c) : Ints .i64 W W.heap.size (some ⟨gc, 0, none⟩) c := by
  obtain ⟨A, cc, e, _, _, hi⟩ := h.own.ints
  injection e with e1 _ _
  subst e1
  exact hi
theorem rows_drawn (A : Option Addr) (c : Nat) (l : List Int) (w w1 : World) (hs : Ints .i64 w w.heap.size A l) (hn : Nums l) (hl : l.length ≤ 9223372036854775807) (hd : Deck w1 w.heap.size A l c 0) (hb : Below w.heap.size w w1) :
    Calls Try.prog 8 #[.pointer (some ⟨w.heap.size, 0, none⟩)] w1 fun e w' => ∃ (n gc : Nat) (cs : List Int), (1 ≤ n ∧ n ≤ 8) ∧ e = .returned (.slice (some ⟨gc, 0, none⟩) n n) ∧ Drawn w w' n gc cs := by
  refine (rows_any A l c w.heap.size w1 (hs.below hb) hn hl hd).mono ?_
  rintro e w' ⟨n, gc, cs, a, h1, h8, rfl, hr⟩
  exact ⟨n, gc, cs, ⟨h1, h8⟩, rfl, hr.ok, hr.own.rebase hb.size, hb.grown hr.grew hb.size (fun k hk => by injection hk with hk; omega)⟩
theorem sets_any (A : Option Addr) (c : Nat) (l : List Int) (s : Int) (w : World) (hs : Ints .i64 w w.heap.size A l) (hn : Nums l) (hl : l.length ≤ 9223372036854775807) (s0 : -9223372036854775808 ≤ s) (s1 : s ≤ 9223372036854775807) :
    Calls Try.prog 4 #[.slice A l.length c, .int .i64 s] w fun e w' => e = .returned (.bool true) ∧ Below w.heap.size w w' := by
  go_enter Try.func4, Try.ntmps4
  go_wp2_with fail
  refine (new_deck A l c w).mono ?_; rintro e w1 ⟨rfl, hd1, hb1, _⟩
  go_wp2_with fail
  refine (rows_drawn A c l w w1 hs hn hl hd1 hb1).mono ?_; rintro e W ⟨n, gc, cs, ⟨h1, h8⟩, rfl, hr⟩
  have hi := hr.ints
  have hbl := hr.below
  obtain rfl := hr.ok.len
  clear hr hd1 hb1
  go_wp2_with fail
  refine (mod_any _ 256 (by omega) (by omega) (by omega) (by omega) _).mono ?_; rintro e w' ⟨rfl, rfl⟩
  generalize modI s 256 = S at *
  go_wp2_with fail
  refine (clash_any _ cs _ _ S W hi (by omega)).mono ?_; rintro e w' ⟨p, q, rfl, hc, rfl⟩
  go_wp2_with fail
  refine (rclash_any _ cs _ _ S _ hi (by omega)).mono ?_; rintro e w' ⟨p', q', rfl, hc', rfl⟩
  obtain ⟨rfl, rfl⟩ := hc.one hc'
  go_wp2_with fail
  refine (allowed_any _ cs _ _ S _ hi (by omega)).mono ?_; rintro e w' ⟨rfl, rfl⟩
  go_wp2_with fail
  refine (rallowed_any _ cs _ _ S _ hi (by omega)).mono ?_; rintro e w' ⟨rfl, rfl⟩
  go_wp2_with fail
  refine (awake_any _).mono ?_; rintro e w' ⟨rfl, hw⟩
  go_wp2
  go_ret
  exact ⟨rfl, hbl.trans (hw.mono hbl.size)⟩
end Go.Proofs.Ytibcneppmhhgiaa
