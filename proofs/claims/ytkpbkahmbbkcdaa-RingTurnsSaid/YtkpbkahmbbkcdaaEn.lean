/-
  The phase that follows in a ring and a group; the entry into a group. Conditions: none that matter.
-/
import Derived.Test.YtkpbkahmbbkcdaaRf
namespace Go.Proofs.Ytkpbkahmbbkcdaa
open Go.ChangeShapes Go.WideShapes Go.RowKit
set_option linter.unusedVariables false

/-- The first number that is greater than p, or -1. -/
def firstGt : List Int → Int → Int
  | [], _ => -1
  | x :: l, p => if p < x then x else firstGt l p
theorem firstGt_none (p : Int) : ∀ O : List Int, (∀ j, j < O.length → ¬ p < at_ O j) → firstGt O p = -1
  | [], _ => rfl
  | x :: l, h => by
    have h0 := h 0 (by simp)
    rw [firstGt, if_neg (by simpa [at_] using h0)]
    exact firstGt_none p l fun j hj => by have := h (j + 1) (by simpa using hj); simpa [at_] using this
theorem firstGt_at (p : Int) : ∀ (O : List Int) (i : Nat), i < O.length → (∀ j, j < i → ¬ p < at_ O j) → p < at_ O i → firstGt O p = at_ O i
  | [], i, hi, _, _ => absurd hi (by simp)
  | x :: l, 0, _, _, hp => by rw [firstGt, if_pos (by simpa [at_] using hp)]; rfl
  | x :: l, i + 1, hi, h, hp => by
    have h0 := h 0 (by omega)
    rw [firstGt, if_neg (by simpa [at_] using h0)]
    have := firstGt_at p l i (by simpa using hi) (fun j hj => by have := h (j + 1) (by omega); simpa [at_] using this) (by simpa [at_] using hp)
    rw [this]; rfl
theorem firstGt_mem (p : Int) : ∀ O : List Int, firstGt O p = -1 ∨ firstGt O p ∈ O
  | [] => .inl rfl
  | x :: l => by
    rw [firstGt]; split
    · exact .inr (by simp)
    · rcases firstGt_mem p l with h | h
      · exact .inl h
      · exact .inr (by simp [h])
theorem ofL_mem (P : List Ph) (r g x : Int) : ∀ k, x ∈ ofL P r g k → ∃ i : Nat, i < k ∧ x = i ∧ (phAt P i).ri = r ∧ (phAt P i).gr = g
  | 0, h => by simp [ofL] at h
  | k + 1, h => by
    rw [ofL] at h
    split at h
    · rename_i hh
      rcases List.mem_append.1 h with h | h
      · obtain ⟨i, h1, h2⟩ := ofL_mem P r g x k h
        exact ⟨i, by omega, h2⟩
      · exact ⟨k, by omega, by simpa using h, hh⟩
    · obtain ⟨i, h1, h2⟩ := ofL_mem P r g x k h
      exact ⟨i, by omega, h2⟩
set_option maxHeartbeats 1000000 in
theorem after_any (A B : Option Addr) (c d n m : Nat) (P : List Ph) (st r g p : Int) (w : World) (hn : P.length = n) (hP : Phs w w.heap.size A P) (hl : n ≤ 60) :
    Calls Try.prog 68 #[.agg #[.slice A n c, .slice B m d, .int .i64 st], .int .i64 r, .int .i64 g, .int .i64 p] w fun e w' => e = .returned (.int .i64 (firstGt (ofL P r g n) p)) ∧ Below w.heap.size w w' := by
  have HN := Lib.hid hn
  clear hn
  have bW := lat_alloc (Below.refl w.heap.size w) (.cells #[.slice A n c, .slice B m d, .int .i64 st] 30)
  have BJ := Blk.new (w := w) (t := 30) (cs := #[.slice A n c, .slice B m d, .int .i64 st])
  have hP1 := hP.grow bW
  go_enter Try.func68, Try.ntmps68
  have j0 := BJ.at 0 rfl
  have j1 := BJ.at 1 rfl
  have j2 := BJ.at 2 rfl
  go_wp2_with fail
  generalize w.alloc (.cells #[.slice A n c, .slice B m d, .int .i64 st] 30) = W at *
  refine (rof_n A B c d n m P st r g W HN.out hP1 hl).mono ?_
  rintro e W2 ⟨A', c', rfl, hb2, hI2⟩
  have hle := of_le P r g n
  obtain ⟨O, hOO⟩ : ∃ O, ofL P r g n = O := ⟨_, rfl⟩
  have HOO := Lib.hid hOO
  rw [hOO] at hle hI2 ⊢
  clear hOO
  clear j0 j1 j2
  have bW2 := bW.trans (hb2.mono bW.size)
  obtain ⟨k, hk⟩ : ∃ k, O.length = k := ⟨_, rfl⟩
  have HK := Lib.hid hk
  rw [hk] at hle ⊢
  clear hk
  go_wp2_with fail
  go_loopw [16] (fun v wr => ∃ i : Nat, i ≤ k ∧ v = .int .i64 i ∧ wr = W2 ∧ ∀ j, j < i → ¬ p < at_ O j) (fun v _ => k - (intOf v).toNat)
  case atStart => exact ⟨0, by omega, rfl, rfl, fun j hj => absurd hj (by omega)⟩
  case round =>
    obtain ⟨i, hi, rfl, rfl, hno⟩ := hrel
    by_cases hlt : i < k
    · have hltZ : (i : Int) < k := by omega
      obtain ⟨b, off, rfl, hbB, hc⟩ := hI2 (by have := HK.out; omega)
      have hci := hc i (by have := HK.out; omega)
      by_cases h1 : p < at_ O i
      · have HA := Lib.hid (firstGt_at p O i (by have := HK.out; omega) hno h1)
        have z1 : decide (p < at_ O i) = true := decide_eq_true h1
        go_wp2
        go_ret
        exact ⟨ret_i (by rw [HOO.out]; exact HA.out.symm), bW2⟩
      · have z1 : decide (p < at_ O i) = false := decide_eq_false h1
        go_wp2
        go_roundw
        case rel => exact ⟨i + 1, hlt, by go_num, (by first | rfl | trivial), fun j hj => by
          by_cases e : j = i
          · subst e; exact h1
          · exact hno j (by omega)⟩
        case measure => simp [intOf]; omega
    · have hltZ : ¬ (i : Int) < k := by omega
      have HA := Lib.hid (firstGt_none p O (fun j hj => hno j (by have := HK.out; omega)))
      go_wp2
      go_ret
      exact ⟨ret_i (by rw [HOO.out]; exact HA.out.symm), bW2⟩
/-- The Next of a group, of the first k rings. -/
def nxL (P : List Ph) (n : Nat) (g : Int) : Nat → List Int
  | 0 => []
  | r + 1 => nxL P n g r ++ [firstGt (ofL P r g n) (-1)]
theorem nxL_len (P : List Ph) (n : Nat) (g : Int) : ∀ r, (nxL P n g r).length = r
  | 0 => rfl
  | r + 1 => by rw [nxL, List.length_append, nxL_len P n g r]; rfl
set_option maxHeartbeats 1000000 in
theorem enter_any (A B : Option Addr) (c d n m gO : Nat) (P : List Ph) (st g g0 wt : Int) (vL vX : Value) (w : World) (hn : P.length = n) (hP : Phs w w.heap.size A P) (hl : n ≤ 60) (hO : Blk w gO 25 #[vL, .int .i64 g0, vX, .int .i64 wt]) :
    Calls Try.prog 44 #[.agg #[.slice A n c, .slice B m d, .int .i64 st], .pointer (some ⟨gO, 0, none⟩), .int .i64 g] w fun e w' => ∃ (v : Value) (gx cx : Nat), e = .returned v ∧ w.grownBy w' (some gO) ∧ w.heap.size ≤ gx ∧ Blk w' gO 25 #[vL, .int .i64 g, .slice (some ⟨gx, 0, none⟩) 2 cx, .int .i64 wt] ∧ Own .i64 3 w' w.heap.size (.slice (some ⟨gx, 0, none⟩) 2 cx) (nxL P n g 2) := by
  have HN := Lib.hid hn
  clear hn
  have bW := lat_alloc (Below.refl w.heap.size w) (.cells #[.slice A n c, .slice B m d, .int .i64 st] 30)
  have BJ := Blk.new (w := w) (t := 30) (cs := #[.slice A n c, .slice B m d, .int .i64 st])
  have hP1 := hP.grow bW
  have hO1 := hO.below bW
  go_enter Try.func44, Try.ntmps44
  go_wp2_with fail
  have hWs : w.heap.size ≤ (w.alloc (.cells #[.slice A n c, .slice B m d, .int .i64 st] 30)).heap.size := bW.size
  have hgw := hO.lt
  generalize w.alloc (.cells #[.slice A n c, .slice B m d, .int .i64 st] 30) = W at *
  go_loopw [6, 8] (fun s6 v wr => ∃ (r : Nat) (vv : Value), r ≤ 2 ∧ s6 = vv ∧ v = .int .i64 r ∧ Below W.heap.size W wr ∧ Own .i64 3 wr W.heap.size vv (nxL P n g r)) (fun _ v _ => 2 - (intOf v).toNat)
  case atStart => exact ⟨0, _, by omega, rfl, rfl, Below.refl _ _, Own.nil_ _ _ _ _⟩
  case round =>
    obtain ⟨r, v, hr, rfl, rfl, hbr, hown⟩ := hrel
    by_cases hlt : r < 2
    · have hltZ : (r : Int) < 2 := by omega
      have BJr := BJ.below hbr
      have j0 := BJr.at 0 rfl
      have j1 := BJr.at 1 rfl
      have j2 := BJr.at 2 rfl
      clear BJr
      go_wp2_with fail
      refine (after_any A B c d n m P st r g (-1) wr HN.out (hP1.grow hbr) hl).mono ?_
      rintro e w2 ⟨rfl, hb2⟩
      clear j0 j1 j2
      have HX := Lib.hid (show nxL P n g (r + 1) = nxL P n g r ++ [firstGt (ofL P r g n) (-1)] by rw [nxL])
      have hlen := nxL_len P n g r
      have HL := Lib.hid hlen
      clear hlen
      generalize firstGt (ofL P r g n) (-1) = x at *
      generalize nxL P n g r = O at *
      have hown2 := hown.below hb2
      have hb3 := hbr.trans (hb2.mono hbr.size)
      go_wp2_with (at_builtin; refine wpList_append_ints rfl (.tmp 11) (.tmp 16) _ rfl W.heap.size 3 .i64 8 Try.underlying23 int_info _ O rfl (hown2.alloc _) _ 1 [x] 1 rfl rfl (ints_at' rfl) (by have := HL.out; simp; omega) (by omega) (by rw [heap_size]; have := hb3.size; omega) ?_; intro v3 w3 hown3 hg3 hat3; have hb4 : Below W.heap.size W w3 := (lat_alloc hb3 _).grown hg3 (lat_alloc hb3 _).size (fun k hk => (hown2.lt hk).1))
      go_roundw
      case rel => exact ⟨r + 1, v3, hlt, rfl, by go_num, hb4, by rw [HX.out]; exact hown3⟩
      case measure => simp [intOf]; omega
    · have hltZ : ¬ (r : Int) < 2 := by omega
      have hr2 : r = 2 := by omega
      subst hr2
      have hl2 := nxL_len P n g 2
      obtain ⟨gx, cx, hv, hgx, hgx2⟩ := hown.form (by omega)
      rw [hl2] at hv
      subst hv
      have hOr := hO1.below hbr
      have o1 := hOr.at 1 rfl
      have o2 := hOr.at 2 rfl
      have o1f := hOr.frozen 1
      have o2f := hOr.frozen 2
      have hO2 : Blk ((wr.setCell ⟨gO, 1, none⟩ (.int .i64 g)).setCell ⟨gO, 2, none⟩ (.slice (some ⟨gx, 0, none⟩) 2 cx)) gO 25 #[vL, .int .i64 g, .slice (some ⟨gx, 0, none⟩) 2 cx, .int .i64 wt] := (hOr.set_ 1 _).set_ 2 _
      have own2 := (own_set (g := gO) (i := 2) (own_set (g := gO) (i := 1) hown (.int .i64 g) (by omega)) (.slice (some ⟨gx, 0, none⟩) 2 cx) (by omega)).rebase hWs
      have hgr : w.grownBy ((wr.setCell ⟨gO, 1, none⟩ (.int .i64 g)).setCell ⟨gO, 2, none⟩ (.slice (some ⟨gx, 0, none⟩) 2 cx)) (some gO) := grownBy_setAt (grownBy_setAt (grown_of_below (bW.trans (hbr.mono bW.size))) gO 1 _ rfl) gO 2 _ rfl
      go_wp2
      refine bodyPost_end (results_none rfl _ _ _) rfl ?_
      exact ⟨⟨_, rfl⟩, hgr, gx, by omega, cx, hO2, own2⟩
end Go.Proofs.Ytkpbkahmbbkcdaa
