/-
  A step of any valid control; a control that is drawn from a deck. Conditions: a drawn junction.
-/
import Derived.Test.YtkpbkahmbbkcdaaVm
import Derived.Test.YtkpbkahmbbkcdaaSo
import Derived.Test.YtkpbkahmbbkcdaaSg
namespace Go.Proofs.Ytkpbkahmbbkcdaa
open Go.ChangeShapes Go.WideShapes Go.RowKit
set_option linter.unusedVariables false

/-- What the junctions are that are drawn. -/
structure JunC (P : List Ph) (C : List Int) (n : Nat) (st : Int) : Prop where
  len : P.length = n
  h1 : 0 < n
  h8 : n ≤ 8
  st : 0 ≤ st ∧ st ≤ 2
  pok : ∀ p, p < n → PhOk (phAt P p)
  ri : ∀ p, p < n → 0 ≤ (phAt P p).ri ∧ (phAt P p).ri ≤ 1
  gr : ∀ p, p < n → 0 ≤ (phAt P p).gr ∧ (phAt P p).gr ≤ 3
  rows : RowsC C n
theorem junC_drawn {q : Nat} {st : Int} {ex : Bool} {P : List Ph} (h : JunOk q st ex P) : JunC P (rowsL P ex) P.length st := by
  have hl := h.len
  have h2 := shapeL_len q
  exact ⟨rfl, by omega, by omega, h.st, fun p hp => h.ok _ (phAt_mem hp), fun p hp => by rw [(h.sh p hp).1]; have := sh_bd q p; omega, fun p hp => by rw [(h.sh p hp).2]; have := sh_bd q p; omega, rowsC_drawn h⟩
theorem cstep_any (A Bc D E : Option Addr) (cP d cL cX n : Nat) (P : List Ph) (C : List Int) (c : Ct) (st t : Int) (w : World) (hj : JunC P C n st) (hv : CtV P C n st c) (hP : Phs w w.heap.size A P) (hC : Ints .i64 w w.heap.size Bc C) (hL : Prs w w.heap.size D c.li) (hX : Ints .i64 w w.heap.size E c.nx) :
    Calls Try.prog 26 #[.agg #[.slice A n cP, .slice Bc n d, .int .i64 st], .agg #[.slice D n cL, .int .i64 c.gr, .slice E 2 cX, .int .i64 c.wt], .int .i64 t] w fun e w' => ∃ v, e = .returned v ∧ Below w.heap.size w w' ∧ CtH w' w.heap.size n v (stepC P C n c t) := by
  have hn := hj.len
  have h1 := hj.h1
  have hl := hv.li
  have hx := hv.nx
  obtain ⟨bA, oA, rfl, _, _⟩ := hP (by omega)
  obtain ⟨bD, oD, rfl, _, _⟩ := hL (by omega)
  obtain ⟨bE, oE, rfl, _, _⟩ := hX (by omega)
  have hwt := hv.wt
  have hst := hj.st
  have hgr := hv.gr
  have hgb := groups_bd (P := P) (fun i hi => hj.gr i (by omega)) n (by omega)
  by_cases hw : 0 < c.wt
  · exact step_wait bA oA bD oD bE oE Bc cP d cL cX n P C c st t w hn hP hj.rows.len hC hl hL hx hX h1 hj.h8 hj.pok hv.ok hj.ri hj.gr (hv.nxin h1) (by omega) (by omega) hw
  · by_cases ht : 0 ≤ t
    · by_cases ht2 : t < n
      · obtain ⟨T, rfl⟩ := Int.eq_ofNat_of_zero_le ht
        exact step_on bA oA bD oD bE oE Bc cP d cL cX n P C c st T w hn hP hj.rows.len hC hl hL hx hX h1 hj.h8 hj.pok hv.ok hj.ri hj.gr (hv.nxin h1) (by omega) (by omega) hw (by omega)
      · exact step_off2 bA oA bD oD bE oE Bc cP d cL cX n P C c st t w hn hP hj.rows.len hC hl hL hx hX h1 hj.h8 hj.pok hv.ok hj.ri hj.gr (hv.nxin h1) (by omega) (by omega) hw (fun h => ht2 h.2) ht
    · exact step_off1 bA oA bD oD bE oE Bc cP d cL cX n P C c st t w hn hP hj.rows.len hC hl hL hx hX h1 hj.h8 hj.pok hv.ok hj.ri hj.gr (hv.nxin h1) (by omega) (by omega) hw (fun h => ht h.1) ht
theorem Out.gr {g : Nat} {w w' : World} {gO B n gl cl gx cx : Nat} {c : Ct} (h : Out w gO B n gl cl gx cx c) (hg : Gr g w w') (hB : g < B) (hO : g ≠ gO) : Out w' gO B n gl cl gx cx c := by
  have h1 := h.bl
  have h2 := h.bx
  exact ⟨hg.blk h.blk (fun e => hO e.symm), h.li.move (hg.1.block gl h.li.lt (fun e => by injection e with e; omega)), h.nx.move (hg.1.block gx h.nx.lt (fun e => by injection e with e; omega)), h.bl, h.bx, h.nl, h.nn⟩
theorem Phs.gr {g : Nat} {w w' : World} {A : Option Addr} {P : List Ph} (h : Phs w w.heap.size A P) (hg : Gr g w w') (hA : ∀ a, A = some a → a.block ≠ g) : Phs w' w'.heap.size A P :=
  h.keep hg.size (fun a ha hB => hg.1.block _ hB (fun e => by injection e with e; exact hA a ha e))
set_option maxRecDepth 20000 in
set_option maxHeartbeats 4000000 in
theorem control_any (g : Nat) (A Bc : Option Addr) (cP d n : Nat) (P : List Ph) (C : List Int) (st : Int) (w : World) (hj : JunC P C n st) (hdk : DeckOk w g) (hP : Phs w w.heap.size A P) (hC : Ints .i64 w w.heap.size Bc C) (hA : ∀ a, A = some a → a.block ≠ g) (hB : ∀ a, Bc = some a → a.block ≠ g) :
    Calls Try.prog 15 #[.pointer (some ⟨g, 0, none⟩), .agg #[.slice A n cP, .slice Bc n d, .int .i64 st]] w fun e w' => ∃ v, e = .returned v ∧ Gr g w w' ∧ DeckOk w' g ∧ ∃ c, CtV P C n st c ∧ CtH w' w.heap.size n v c := by
  have hg := hdk.lt
  have h1 := hj.h1
  have h8 := hj.h8
  have bW := lat_alloc (lat_alloc (Below.refl w.heap.size w) (.cells #[.slice A n cP, .slice Bc n d, .int .i64 st] 30)) (.cells #[.slice none 0 0, .int .i64 0, .slice none 0 0, .int .i64 0] 25)
  have BJ := (Blk.new (w := w) (t := 30) (cs := #[.slice A n cP, .slice Bc n d, .int .i64 st])).alloc (.cells #[.slice none 0 0, .int .i64 0, .slice none 0 0, .int .i64 0] 25)
  have BR := Blk.new (w := w.alloc (.cells #[.slice A n cP, .slice Bc n d, .int .i64 st] 30)) (t := 25) (cs := #[.slice none 0 0, .int .i64 0, .slice none 0 0, .int .i64 0])
  rw [heap_size] at BR
  have hP1 := hP.grow bW
  have hC1 := hC.grow bW
  have hdW := hdk.below bW
  go_enter Try.func15, Try.ntmps15
  have j0 := BJ.at 0 rfl
  have j1 := BJ.at 1 rfl
  have j2 := BJ.at 2 rfl
  go_wp2_with fail
  generalize (w.alloc (.cells #[.slice A n cP, .slice Bc n d, .int .i64 st] 30)).alloc (.cells #[.slice none 0 0, .int .i64 0, .slice none 0 0, .int .i64 0] 25) = W at *
  have hGW : Gr g w W := Gr.of_below bW
  have hWs := BR.lt
  refine (init_any A Bc cP d n n P st W hj.len hP1 h1 (by omega)).mono ?_
  rintro e W2 ⟨v, rfl, hb2, gl, cl, gx, cx, rfl, hgl, hgx, LI2, NX2⟩
  clear j0 j1 j2
  have hV := init_v (C := C) h1 hj.st.1 hj.gr
  generalize initC P n st = c at *
  have b3 := lat_alloc (Below.refl W2.heap.size W2) (.cells #[.slice (some ⟨gl, 0, none⟩) n cl, .int .i64 c.gr, .slice (some ⟨gx, 0, none⟩) 2 cx, .int .i64 c.wt] 25)
  have hs2 := hb2.size
  obtain ⟨B, hBB⟩ : ∃ B, W.heap.size = B := ⟨_, rfl⟩
  have HBB := Lib.hid hBB
  have O3 : Out (W2.alloc (.cells #[.slice (some ⟨gl, 0, none⟩) n cl, .int .i64 c.gr, .slice (some ⟨gx, 0, none⟩) 2 cx, .int .i64 c.wt] 25)) W2.heap.size B n gl cl gx cx c := ⟨Blk.new, LI2.below b3, NX2.below b3, by omega, by omega, by have := LI2.lt; omega, by have := NX2.lt; omega⟩
  have hbW3 := hb2.trans (b3.mono hb2.size)
  have hG3 : Gr g W (W2.alloc (.cells #[.slice (some ⟨gl, 0, none⟩) n cl, .int .i64 c.gr, .slice (some ⟨gx, 0, none⟩) 2 cx, .int .i64 c.wt] 25)) := Gr.of_below hbW3
  have hd3 := hdW.below hbW3
  have hgW : g < W.heap.size := by omega
  have hgc : W.heap.size ≤ W2.heap.size := hs2
  go_wp2_with fail
  clear hb2 LI2 NX2 b3 hgl hgx hs2 hbW3 hdW
  generalize W2.alloc (.cells #[.slice (some ⟨gl, 0, none⟩) n cl, .int .i64 c.gr, .slice (some ⟨gx, 0, none⟩) 2 cx, .int .i64 c.wt] 25) = W3 at *
  generalize W2.heap.size = gc at *
  refine (next_ok g 12 W3 hd3 (by omega) (by omega)).mono ?_
  rintro e W4 ⟨hG4, hd4, k0, k00, k01, rfl⟩
  have O4 := O3.gr hG4 (by omega) (by omega)
  have hG4 := hG3.trans hG4
  clear hG3 hd3 O3
  obtain ⟨K, rfl⟩ := Int.eq_ofNat_of_zero_le k00
  go_wp2_with fail
  go_loopw [6] (fun v wr => ∃ k : Nat, k ≤ 20 ∧ v = .int .i64 k ∧ Gr g W wr ∧ DeckOk wr g ∧ ∃ (gl cl gx cx : Nat) (c : Ct), Out wr gc B n gl cl gx cx c ∧ CtV P C n st c) (fun v _ => (intOf v).toNat)
  case atStart => exact ⟨K, by omega, rfl, hG4, hd4, gl, cl, gx, cx, c, O4, hV⟩
  case round =>
    clear hV O4 hG4 hd4 k01
    obtain ⟨k, hk, rfl, hGr, hdr, gl, cl, gx, cx, c, Or, hV⟩ := hrel
    by_cases hlk : 0 < k
    · have hlkZ : (0 : Int) < k := by omega
      have Jr := hGr.blk BJ (by omega)
      have j0 := Jr.at 0 rfl
      go_wp2_with fail
      refine (next_ok g ((n : Int) + 1) _ hdr (by omega) (by omega)).mono ?_
      rintro e W5 ⟨hG5, hd5, x, x0, x1, rfl⟩
      clear j0 Jr
      have O5 := Or.gr hG5 (by omega) (by omega)
      have hG5 := hGr.trans hG5
      go_wp2_with fail
      refine (range_ok g 1 4 _ hd5 (by omega) (by omega) (by omega)).mono ?_
      rintro e W6 ⟨hG6, hd6, y, y0, y1, rfl⟩
      have O6 := O5.gr hG6 (by omega) (by omega)
      have hG6 := hG5.trans hG6
      clear hG5 O5 hd5 hGr hdr Or
      obtain ⟨Y, rfl⟩ := Int.eq_ofNat_of_zero_le (show 0 ≤ y by omega)
      obtain ⟨tg, htg⟩ : ∃ tg, x - 1 = tg := ⟨_, rfl⟩
      have zx : IntKind.i64.wrap (x - 1) = tg := by rw [IntKind.wrap_i64]; omega
      go_wp2_with fail
      (try rw [htg])
      go_loopw [8] (fun v wr => ∃ y : Nat, y ≤ 20 ∧ v = .int .i64 y ∧ Gr g W wr ∧ DeckOk wr g ∧ ∃ (gl cl gx cx : Nat) (c : Ct), Out wr gc B n gl cl gx cx c ∧ CtV P C n st c) (fun v _ => (intOf v).toNat)
      case atStart => exact ⟨Y, by omega, rfl, hG6, hd6, gl, cl, gx, cx, c, O6, hV⟩
      case round =>
        clear hV O6 hG6 hd6 y0 y1
        obtain ⟨y, hy, rfl, hGs, hds, gl, cl, gx, cx, c, Os, hV⟩ := hrel
        by_cases hly : 0 < y
        · have hlyZ : (0 : Int) < y := by omega
          have Js := hGs.blk BJ (by omega)
          have j0 := Js.at 0 rfl
          have j1 := Js.at 1 rfl
          have j2 := Js.at 2 rfl
          have o0 := Os.blk.at 0 rfl
          have o1 := Os.blk.at 1 rfl
          have o2 := Os.blk.at 2 rfl
          have o3 := Os.blk.at 3 rfl
          go_wp2_with fail
          refine (cstep_any A Bc (some ⟨gl, 0, none⟩) (some ⟨gx, 0, none⟩) cP d cl cx n P C c st tg _ hj hV (hP1.gr hGs hA) (hC1.gr hGs hB) Os.li.prs Os.nx.ints).mono ?_
          rintro e W7 ⟨v7, rfl, hb7, gl7, cl7, gx7, cx7, rfl, hgl7, hgx7, LI7, NX7⟩
          clear j0 j1 j2 o0 o1 o2 o3
          have hG7 := hGs.trans (Gr.of_below hb7)
          have hd7 := hds.below hb7
          have B7 := Os.blk.below hb7
          have hV7 := step_v hj.rows hV h1 hj.pok hj.ri hj.gr tg
          have hgl7l := LI7.lt
          have hgx7l := NX7.lt
          have hgcl := Os.blk.lt
          have hs7 := hGs.size
          generalize stepC P C n c tg = c7 at *
          go_wp2_with (refine step_store_ct (by rfl) (by rfl) (by rfl) (b := gc) (by rfl) (by rfl) B7 ?_; intro W8 B8 hg8; have hG8 := hG7.more hd7 hgW hg8 (fun k e => (by injection e with e; omega)); have O8 : Out W8 gc B n gl7 cl7 gx7 cx7 c7 := ⟨B8, LI7.grown hg8 (by intro e; injection e with e; omega), NX7.grown hg8 (by intro e; injection e with e; omega), by omega, by omega, by omega, by omega⟩; clear hg8 B8)
          go_roundw
          case rel => exact ⟨y - 1, by omega, by go_num, hG8.1, hG8.2, gl7, cl7, gx7, cx7, c7, O8, hV7⟩
          case measure => simp [intOf]; omega
        · have hlyZ : ¬ (0 : Int) < y := by omega
          go_wp2
          go_roundw
          case rel => exact ⟨k - 1, by omega, by go_num, hGs, hds, gl, cl, gx, cx, c, Os, hV⟩
          case measure => simp [intOf]; omega
    · have hlkZ : ¬ (0 : Int) < k := by omega
      have o0 := Or.blk.at 0 rfl
      have o1 := Or.blk.at 1 rfl
      have o2 := Or.blk.at 2 rfl
      have o3 := Or.blk.at 3 rfl
      have R9 := hGr.blk BR (by omega)
      go_wp2_with (refine step_store_ct (by rfl) (by rfl) (by rfl) (b := w.heap.size + 1) (by rfl) (by rfl) R9 ?_; intro w9 Z9 hg9)
      refine bodyPost_ret (results_cell rfl rfl (load_control Z9)) rfl ?_
      have hF9 := (hGW.trans hGr).more (hGr.2 (hGW.2 hdk)) hg hg9 (fun k e => by injection e with e; omega)
      have hbl := Or.bl
      have hbx := Or.bx
      have hWw := hGW.size
      have hBW := HBB.out
      exact ⟨_, rfl, hF9.1, hF9.2, c, hV, gl, cl, gx, cx, rfl, by omega, by omega, Or.li.grown hg9 (by intro e; injection e with e; omega), Or.nx.grown hg9 (by intro e; injection e with e; omega)⟩
end Go.Proofs.Ytkpbkahmbbkcdaa
