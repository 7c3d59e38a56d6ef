/-
  Where a vehicle is in a list. Conditions: none but that lists are in memory.
-/
import Derived.Test.YtgafianhlobcfaaVe
namespace Go.Proofs.Ytgafianhlobcfaa
open Go.ChangeShapes Go.WideShapes Go.RowKit
set_option linter.unusedVariables false

theorem closure_any (x : Ve) (b : Nat) (id : Int) (w : World) (hc : w.cell? ⟨b, 0, none⟩ = some (.int .i64 id)) (hb : b < w.heap.size) :
    Calls Try.prog 30 #[.agg #[.int .i64 x.id, .int .i64 x.cl], .pointer (some ⟨b, 0, none⟩)] w fun e w' => e = .returned (.bool (x.id == id)) ∧ Below w.heap.size w w' := by
  have bX := lat_alloc (Below.refl w.heap.size w) (.cells #[.int .i64 x.id, .int .i64 x.cl] 25)
  have h1 := (bX.cell (p := ⟨b, 0, none⟩) hb).trans hc
  go_enter Try.func30, Try.ntmps30
  go_wp2
  go_ret
  exact ⟨rfl, bX⟩
theorem closure_c (x : Ve) (b : Nat) (id : Int) (w : World) (hc : w.cell? ⟨b, 0, none⟩ = some (.int .i64 id)) (hb : b < w.heap.size) {r : Bool} (hr : (x.id == id) = r) :
    Calls Try.prog 30 #[.agg #[.int .i64 x.id, .int .i64 x.cl], .pointer (some ⟨b, 0, none⟩)] w fun e w' => e = .returned (.bool r) ∧ Below w.heap.size w w' := by
  rw [← hr]; exact closure_any x b id w hc hb
set_option maxHeartbeats 1000000 in
theorem indexfunc_any (A : Option Addr) (c : Nat) (V : List Ve) (b : Nat) (id : Int) (w : World) (hs : Vs w w.heap.size A V) (hl : V.length ≤ 9223372036854775807) (hc : w.cell? ⟨b, 0, none⟩ = some (.int .i64 id)) (hb : b < w.heap.size) :
    Calls Try.prog 29 #[.slice A V.length c, .func (.func 30) #[] #[.pointer (some ⟨b, 0, none⟩)]] w fun e w' => e = .returned (.int .i64 (idxF id V 0)) ∧ Below w.heap.size w w' := by
  go_enter Try.func29, Try.ntmps29
  go_wp2
  go_loopw [8] (fun i wr => ∃ (k : Nat), k ≤ V.length ∧ i = .int .i64 k ∧ Below w.heap.size w wr ∧ Go.RowKit.Hid (idxF id V 0 = idxF id (V.drop k) k)) (fun i _ => V.length - (intOf i).toNat)
  case atStart => exact ⟨0, by omega, rfl, Below.refl _ _, Lib.hid rfl⟩
  case round =>
    obtain ⟨k, hk, rfl, hbr, HV⟩ := hrel
    by_cases hlt : k < V.length
    · have hlt' : (k : Int) < V.length := by omega
      obtain ⟨bb, off, rfl, hB, h0, h1⟩ := (hs.grow hbr).at hlt
      have HD := Lib.hid (drop_ve hlt)
      generalize veAt V k = x at *
      have hcr := (hbr.cell (p := ⟨b, 0, none⟩) hb).trans hc
      have hbr' : b < wr.heap.size := Nat.lt_of_lt_of_le hb hbr.size
      by_cases h : x.id = id
      · have hr : (x.id == id) = true := by simpa using h
        have HR := Lib.hid hr
        have HX : Hid (idxF id V 0 = k) := Lib.hid (by rw [HV.out, HD.out, idxF, if_pos h])
        clear h hr
        go_wp2_with fail
        refine (closure_c x b id wr hcr hbr' HR.out).mono ?_
        rintro e w2 ⟨rfl, hw2⟩
        go_wp2
        go_ret
        exact ⟨ret_i HX.out.symm, hbr.trans (hw2.mono hbr.size)⟩
      · have hr : (x.id == id) = false := by simpa using h
        have HR := Lib.hid hr
        have HX : Hid (idxF id V 0 = idxF id (V.drop (k + 1)) (k + 1)) := Lib.hid (by rw [HV.out, HD.out, idxF, if_neg h])
        clear h hr
        go_wp2_with fail
        refine (closure_c x b id wr hcr hbr' HR.out).mono ?_
        rintro e w2 ⟨rfl, hw2⟩
        go_wp2
        go_roundw
        case rel => exact ⟨k + 1, by omega, by go_num, hbr.trans (hw2.mono hbr.size), HX⟩
        case measure => simp [intOf]; omega
    · have hk' : V.drop k = [] := List.drop_eq_nil_of_le (by omega)
      have HX : Hid (idxF id V 0 = -1) := Lib.hid (by rw [HV.out, hk', idxF])
      clear hk'
      go_wp2
      go_ret
      exact ⟨ret_i HX.out.symm, hbr⟩
theorem index_any (A : Option Addr) (c : Nat) (V : List Ve) (id : Int) (w : World) (hs : Vs w w.heap.size A V) (hl : V.length ≤ 9223372036854775807) :
    Calls Try.prog 25 #[.slice A V.length c, .int .i64 id] w fun e w' => e = .returned (.int .i64 (idxF id V 0)) ∧ Below w.heap.size w w' := by
  have bX := lat_alloc (Below.refl w.heap.size w) (.cells #[.int .i64 id] 3)
  have B0 := Blk.new (w := w) (t := 3) (cs := #[.int .i64 id])
  go_enter Try.func25, Try.ntmps25
  go_wp2_with fail
  refine (indexfunc_any A c V w.heap.size id _ (hs.grow bX) hl (B0.at 0 rfl) B0.lt).mono ?_
  rintro e w2 ⟨rfl, hw2⟩
  go_wp2
  go_ret
  exact ⟨rfl, bX.trans (hw2.mono bX.size)⟩
theorem limit_any (v0 v1 v2 v4 v5 v6 v7 : Value) (A : Option Addr) (c : Nat) (l : List Int) (cl : Int) (w : World) (hs : Ints .i64 w w.heap.size A l) (hl : l.length ≤ 9223372036854775807) (h0 : 0 ≤ cl) (h1 : cl < l.length) :
    Calls Try.prog 26 #[.agg #[v0, v1, v2, .slice A l.length c, v4, v5, v6, v7], .int .i64 cl] w fun e w' => e = .returned (.int .i64 (at_ l cl.toNat)) ∧ Below w.heap.size w w' := by
  obtain ⟨k, rfl⟩ := Int.eq_ofNat_of_zero_le h0
  have hk : k < l.length := by omega
  have bX := lat_alloc (Below.refl w.heap.size w) (.cells #[v0, v1, v2, .slice A l.length c, v4, v5, v6, v7] 29)
  obtain ⟨b, off, rfl, hB, hc⟩ := (hs.grow bX).sub hk
  go_enter Try.func26, Try.ntmps26
  go_wp2
  go_ret
  exact ⟨rfl, bX⟩
end Go.Proofs.Ytgafianhlobcfaa
