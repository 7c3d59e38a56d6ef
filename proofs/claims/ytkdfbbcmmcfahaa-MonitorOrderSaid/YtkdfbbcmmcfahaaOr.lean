/-
  The law MonitorOrder answers true: its walk. Conditions: none.
-/
import Derived.Test.YtkdfbbcmmcfahaaMo
namespace Go.Proofs.Ytkdfbbcmmcfahaa
open Go.ChangeShapes Go.WideShapes Go.RowKit
set_option linter.unusedVariables false

theorem made_zeros (n : Nat) : (madeCells #[Value.int .i64 0] n).toList = (List.replicate n (0 : Int)).map (Value.int .i64) := by
  unfold madeCells
  simp [Nat.mod_one, List.map_const']
theorem own_ints_at {k : IntKind} {e : TypeId} {w : World} {base g n cap : Nat} {l : List Int} (h : Own k e w base (.slice (some ⟨g, 0, none⟩) n cap) l) : Ints k w w.heap.size (some ⟨g, 0, none⟩) l := by
  obtain ⟨A, c, hv, _, _, hi⟩ := h.ints
  injection hv with hA _ _
  subst hA
  exact hi
theorem below_of_grown {w w' : World} (h : w.grownBy w' none) : Below w.heap.size w w' := ⟨h.os, h.tape, h.output, h.size, fun k hk => h.block k hk (by simp)⟩
theorem pass_set {L : List Int} {k i : Nat} (h : passB (at_ L i) = true) : passB (at_ (L.set k 1) i) = true := by
  unfold at_ at *
  by_cases e : k = i
  · subst e
    by_cases hl : k < L.length
    · have : (L.set k 1).getD k 0 = 1 := by simp [hl]
      rw [this]; decide
    · rw [List.set_eq_of_length_le (by omega)]; exact h
  · have : (L.set k 1).getD i 0 = L.getD i 0 := by simp [List.getD, List.getElem?_set_ne e]
    rw [this]; exact h
theorem fb_set {C L : List Int} {k : Nat} (h : Fb C L) : Fb C (L.set k 1) := by
  obtain ⟨i, hi, j, hj, h0, h1, h2, h3⟩ := h
  exact ⟨i, by rw [List.length_set]; exact hi, j, by rw [List.length_set]; exact hj, h0, pass_set h1, pass_set h2, h3⟩
theorem rows_len (P : List Ph) (ex : Bool) : (rowsL P ex).length = P.length := by simp [rowsL]

set_option maxRecDepth 100000 in
set_option maxHeartbeats 1000000 in
theorem order_any (A : Option Addr) (cA : Nat) (l : List Int) (B : Option Addr) (cB : Nat) (ls : List Int) (n : Int) (w : World) (hs : Ints .i64 w w.heap.size A l) (hn : Nums l) (hl : l.length ≤ 9223372036854775807) (hs2 : Ints .i64 w w.heap.size B ls) (hn2 : Nums ls) (hl2 : ls.length ≤ 9223372036854775807) (n0 : -9223372036854775808 ≤ n) (n1 : n ≤ 9223372036854775807) :
    Calls Try.prog 4 #[.slice A l.length cA, .slice B ls.length cB, .int .i64 n] w fun e w' => e = .returned (.bool true) ∧ Below w.heap.size w w' := by
  by_cases hlen : 30 < ls.length
  · have hz : decide (30 < (ls.length : Int)) = true := by simp; omega
    go_enter Try.func4, Try.ntmps4
    go_wp2_with fail
    refine (awake_any _).mono ?_
    rintro e w1 ⟨rfl, hb1⟩
    go_wp2
    go_ret
    exact ⟨rfl, hb1⟩
  have hlen60 : ls.length ≤ 30 := by omega
  have hz : decide (30 < (ls.length : Int)) = false := by simp; omega
  clear hlen
  go_enter Try.func4, Try.ntmps4
  go_wp2_with fail
  refine (new_ok A l cA _ hs hn hl).mono ?_
  rintro e w2 ⟨rfl, hdk, hb2, hlt2⟩
  clear hz
  go_wp2_with fail
  refine (junction_any w.heap.size w2 hdk).mono ?_
  rintro e w3 ⟨hgr, hdk3, q, st, ex, P, A1, B1, c1, d1, rfl, hj, hP, hI, hA1, hB1⟩
  have hb3 := hgr.base hb2 (Nat.le_refl _)
  have hP8 : 1 ≤ P.length ∧ P.length ≤ 8 := by have h1 := hj.len; have h2 := shapeL_len q; omega
  have hrl := rows_len P ex
  generalize rowsL P ex = C at *
  have hs3 := (hs2.below hb3).more hb3.size
  clear hj hP hA1 hB1 hgr hdk hdk3 hb2 hs2
  obtain ⟨m, hm⟩ : ∃ m, P.length = m := ⟨_, rfl⟩
  rw [hm] at hP8 hrl ⊢
  clear hm
  have HRL := Lib.hid hrl
  clear hrl
  have bA := lat_alloc (Below.refl w3.heap.size w3) (.cells #[.slice A1 m c1, .slice B1 m d1, .int .i64 st] 25)
  have BJ := Blk.new (w := w3) (t := 25) (cs := #[.slice A1 m c1, .slice B1 m d1, .int .i64 st])
  have hI3 := hI.grow bA
  have hs4 := hs3.grow bA
  have hb4 := hb3.trans (bA.mono hb3.size)
  have j0 := BJ.at 0 rfl
  go_wp2_with (obtain ⟨ii, hi0, hi1, hi2, hi3⟩ := info_parts int_info; refine wpList_make_row _ rfl _ _ 22 rfl 3 ii (.int .i64 0) Try.underlying22 hi0 hi1 hi2 rfl .i64 .i64 m rfl rfl (by rw [hi3]; omega) (by omega) ?_)
  clear j0
  have HGC := Lib.hid (heap_size w3 (.cells #[.slice A1 m c1, .slice B1 m d1, .int .i64 st] 25))
  generalize w3.alloc (.cells #[.slice A1 m c1, .slice B1 m d1, .int .i64 st] 25) = W3 at *
  generalize w3.heap.size = gj at *
  clear bA hI hs3 hb3
  have hlen0 := (List.length_replicate (n := m) (a := (0 : Int)))
  have hown := own_new (k := .i64) (e := 3) (w := W3) (base := W3.heap.size) (madeCells #[.int .i64 0] m) (List.replicate m 0) (made_zeros m) (Nat.le_refl _) (by rw [hlen0]; omega)
  rw [hlen0] at hown
  have hgj := BJ.lt
  have bM := Below.alloc (Below.refl W3.heap.size W3) (Nat.le_refl _) (.cells (madeCells #[.int .i64 0] m) 3)
  have HL0 := Lib.hid hlen0
  clear hlen0
  generalize W3.alloc (.cells (madeCells #[.int .i64 0] m) 3) = W4 at *
  generalize List.replicate m (0 : Int) = L0 at *
  rw [HGC.out] at hown hgj bM hI3 hs4
  go_loopw [24] (fun v wr => ∃ (k : Nat) (La : List Int), v = .int .i64 k ∧ k ≤ m ∧ Go.RowKit.Hid (La.length = m) ∧ Own .i64 3 wr (gj + 1) (.slice (some ⟨gj + 1, 0, none⟩) m m) La ∧ Below (gj + 1) W3 wr) (fun v _ => m - (intOf v).toNat)
  case atStart => exact ⟨0, L0, rfl, by omega, HL0, hown, bM⟩
  case round =>
    obtain ⟨k, La, rfl, hk, HLA, hO, hbr⟩ := hrel
    by_cases hlt : k < m
    · have hltZ : (k : Int) < m := by omega
      by_cases hkl : k < ls.length
      · have hklZ : (k : Int) < ls.length := by omega
        obtain ⟨bb, off, rfl, hbB, hcs⟩ := (hs4.below hbr) (by omega)
        have hck := hcs k hkl
        have hx := hn2 _ (at_mem hkl)
        clear hcs
        obtain ⟨d0, f0⟩ := hO.cell (i := k) (by have := HLA.out; omega)
        go_wp2_with fail
        refine (mod_q (at_ ls k) 4 (by omega) (by omega) hx.1 hx.2 _).mono ?_
        rintro e w' ⟨rfl, rfl⟩
        generalize modI (at_ ls k) 4 = y at *
        go_wp2
        go_roundw
        case rel => exact ⟨k + 1, La.set k y, by go_num, by omega, Lib.hid (by rw [List.length_set]; exact HLA.out), hO.set (by have := HLA.out; omega) _, Below.setCell (p := ⟨gj + 1, k, none⟩) hbr (Nat.le_refl _) _⟩
        case measure => simp [intOf]; omega
      · have hklZ : ¬ (k : Int) < ls.length := by omega
        go_wp2
        go_roundw
        case rel => exact ⟨k + 1, La, by go_num, by omega, HLA, hO, hbr⟩
        case measure => simp [intOf]; omega
    · have hkm : ¬ (k : Int) < m := by omega
      have hIa := own_ints_at hO
      have hgcl : gj + 1 < wr.heap.size := (hO.lt rfl).2
      go_wp2_with (first | (at_builtin; refine wpList_append_ints rfl (.const (.slice none 0 0)) (.tmp 40) _ rfl wr.heap.size 3 .i64 8 Try.underlying22 int_info _ [] rfl (Own.nil_ _ _ _ _) (some ⟨gj + 1, 0, none⟩) m La m HLA.out rfl hIa (by have := HLA.out; simp; omega) (by omega) (Nat.le_refl _) ?_; intro v6 w6 own6 g6 a6; rw [List.nil_append] at own6; obtain ⟨gb, cap6, hv6, hgb, hgb2⟩ := own6.form (by have := HLA.out; simp; omega); rw [HLA.out] at hv6; subst hv6))
      have hb6 : Below wr.heap.size wr w6 := below_of_grown g6
      refine (mod_any n m (by omega) (by omega) n0 n1 _).mono ?_
      rintro e w' ⟨rfl, rfl⟩
      have hmd := modI_bd n m (by omega)
      obtain ⟨k2, hk2⟩ := Int.eq_ofNat_of_zero_le hmd.1
      rw [hk2] at hmd ⊢
      have hk2n : k2 < m := by omega
      have hk2Z : (k2 : Int) < m := by omega
      clear hk2 hmd
      obtain ⟨d0, f0⟩ := own6.cell (i := k2) (by have := HLA.out; simp; omega)
      have hB9 : Below wr.heap.size wr (w6.setCell ⟨gb, k2, none⟩ (.int .i64 1)) := Below.setCell (p := ⟨gb, k2, none⟩) hb6 hgb _
      have hO9 := own_ints_at (hO.below hB9)
      have hOb := own_ints_at (own6.set (i := k2) (by have := HLA.out; simp; omega) 1)
      have hb9 : Below (gj + 1) W3 (w6.setCell ⟨gb, k2, none⟩ (.int .i64 1)) := hbr.trans (hB9.mono (Nat.le_of_lt hgcl))
      have hI9 := (hI3.below hb9).more (Nat.le_trans (Nat.le_of_lt hgcl) hB9.size)
      have BJ9 := BJ.below (HGC.out ▸ hb9)
      have hW9 := hb4.trans ((HGC.out ▸ hb9 : Below W3.heap.size W3 _).mono hb4.size)
      have j1 := BJ9.at 1 rfl
      go_wp2_with fail
      generalize w6.setCell ⟨gb, k2, none⟩ (.int .i64 1) = W9 at *
      refine (forb_any B1 (some ⟨gj + 1, 0, none⟩) d1 m m m C La W9 HRL.out HLA.out hI9 hO9 (by omega) (by omega)).mono ?_
      rintro e w' ⟨rfl, r1, rfl, hr1⟩
      cases r1 with
      | false =>
        go_wp2_with fail
        refine (awake_any _).mono ?_
        rintro e w7 ⟨rfl, hb7⟩
        go_wp2
        go_ret
        exact ⟨rfl, hW9.trans (hb7.mono hW9.size)⟩
      | true =>
        have hf := fb_set (k := k2) (hr1.1 rfl)
        go_wp2_with fail
        refine (forb_any B1 (some ⟨gb, 0, none⟩) d1 cap6 m m C (La.set k2 1) W9 HRL.out (by rw [List.length_set]; exact HLA.out) hI9 hOb (by omega) (by omega)).mono ?_
        rintro e w' ⟨rfl, r2, rfl, hr2⟩
        obtain rfl : r2 = true := hr2.2 hf
        go_wp2_with fail
        refine (awake_any _).mono ?_
        rintro e w7 ⟨rfl, hb7⟩
        go_wp2
        go_ret
        exact ⟨rfl, hW9.trans (hb7.mono hW9.size)⟩
end Go.Proofs.Ytkdfbbcmmcfahaa
