/-
  Parse of layer 3. Conditions: none.
-/
import Derived.Test.YtahemaondkjpiaaEn
namespace Go.Proofs.Ytahemaondkjpiaa
open Go.ChangeShapes Go.WideShapes Go.RowKit
set_option linter.unusedVariables false

theorem results_cell_tmp2 {P : Program} {w : World} {fn : Func} {t : TypeId} {a u x : Tmp} {A : Addr} {V : Value} {tmps : Array Value} (h : fn.results = #[.cell a t, .tmp u, .tmp x]) (ha : tmps.getD a undef = .pointer (some A)) (hl : (loadVar t A).run P w = .ok V w) :
    (results fn tmps).run P w = .ok (.tuple #[V, tmps.getD u undef, tmps.getD x undef]) w := by
  rw [Array.getD_eq_getD_getElem?] at ha
  simp [results, h, ha, asAddr, hl]
theorem load_item {w : World} {g : Nat} {a b c : Value} (h : Blk w g 36 #[a, b, c]) : (loadVar 36 ⟨g, 0, none⟩).run Try.prog w = .ok (.agg #[a, b, c]) w := by
  have c0 := Blk.cell h 0
  have c1 := Blk.cell h 1
  have c2 := Blk.cell h 2
  go_simp
theorem Ints.far {k : IntKind} {w : World} {B : Nat} {A : Option Addr} {l : List Int} {p : Addr} (h : Ints k w B A l) (hp : ∀ a, A = some a → p.block ≠ a.block) (v : Value) : Ints k (w.setCell p v) B A l := fun h0 => by
  obtain ⟨b, off, rfl, hB, hc⟩ := h h0
  refine ⟨b, off, rfl, hB, fun i hi => ?_⟩
  rw [← hc i hi]
  exact World.cell?_of_block (Below.heap_setCell _ _ _ _ (fun e => hp _ rfl e.symm))
def sum4 (a b c d : Int) : Int := ((a * 256 + b) * 256 + c) * 256 + d
def tailS (l : List Int) : Int := sum4 (at_ l (l.length - 4)) (at_ l (l.length - 3)) (at_ l (l.length - 2)) (at_ l (l.length - 1))
theorem sumOf_any (A : Option Addr) (c : Nat) (l : List Int) (w : World) (hs : Ints .u8 w w.heap.size A l) (hby : Byte l) (h4 : 10 ≤ l.length) (hc : l.length ≤ c) (hcm : c ≤ 9223372036854775807) :
    Calls Try.prog 25 #[.slice A l.length c] w fun e w' => e = .returned (.int .u32 (tailS l)) ∧ w = w' := by
  obtain ⟨b, off, rfl, hB, hcell⟩ := hs (by omega)
  have b0 := hby _ (at_mem (show l.length - 4 < l.length by omega))
  have b1 := hby _ (at_mem (show l.length - 3 < l.length by omega))
  have b2 := hby _ (at_mem (show l.length - 2 < l.length by omega))
  have b3 := hby _ (at_mem (show l.length - 1 < l.length by omega))
  have c0 := hcell (l.length - 4) (by omega)
  have c1 := hcell (l.length - 3) (by omega)
  have c2 := hcell (l.length - 2) (by omega)
  have c3 := hcell (l.length - 1) (by omega)
  unfold tailS
  generalize at_ l (l.length - 4) = x0 at *
  generalize at_ l (l.length - 3) = x1 at *
  generalize at_ l (l.length - 2) = x2 at *
  generalize at_ l (l.length - 1) = x3 at *
  obtain ⟨n, hn⟩ : ∃ n, l.length = n + 4 := ⟨l.length - 4, by omega⟩
  rw [hn] at h4 hc ⊢
  rw [hn, show off + (n + 4 - 4) = off + n by omega] at c0
  rw [hn, show off + (n + 4 - 3) = off + n + 1 by omega] at c1
  rw [hn, show off + (n + 4 - 2) = off + n + 2 by omega] at c2
  rw [hn, show off + (n + 4 - 1) = off + n + 3 by omega] at c3
  have hc4 : ¬ c = n := by omega
  clear hn hcell hs hby
  go_enter Try.func25, Try.ntmps25
  go_wp2
  go_loop [3, 12] (fun s i => (i = .int .i64 0 ∧ s = .int .u32 0) ∨ (i = .int .i64 1 ∧ s = .int .u32 x0) ∨ (i = .int .i64 2 ∧ s = .int .u32 (x0 * 256 + x1)) ∨ (i = .int .i64 3 ∧ s = .int .u32 ((x0 * 256 + x1) * 256 + x2)) ∨ (i = .int .i64 4 ∧ s = .int .u32 (sum4 x0 x1 x2 x3))) (fun _ i => 4 - (intOf i).toNat)
  case atStart => exact .inl ⟨rfl, rfl⟩
  case round =>
    rcases hrel with ⟨rfl, rfl⟩ | ⟨rfl, rfl⟩ | ⟨rfl, rfl⟩ | ⟨rfl, rfl⟩ | ⟨rfl, rfl⟩
    · go_wp2
      go_round
      case rel => exact .inr (.inl ⟨rfl, by first | rfl | (congr 1; omega) | (unfold sum4; congr 1; omega)⟩)
      case measure => simp [intOf]
    · go_wp2
      go_round
      case rel => exact .inr (.inr (.inl ⟨rfl, by first | rfl | (congr 1; omega) | (unfold sum4; congr 1; omega)⟩))
      case measure => simp [intOf]
    · go_wp2
      go_round
      case rel => exact .inr (.inr (.inr (.inl ⟨rfl, by first | rfl | (congr 1; omega) | (unfold sum4; congr 1; omega)⟩)))
      case measure => simp [intOf]
    · go_wp2
      go_round
      case rel => exact .inr (.inr (.inr (.inr ⟨rfl, by first | rfl | (congr 1; omega) | (unfold sum4; congr 1; omega)⟩)))
      case measure => simp [intOf]
    · go_wp2
      go_ret
      exact ⟨rfl, rfl⟩
/-- What a whole frame's bytes are judged: code, kind, payload, bytes used. -/
def jud (l : List Int) : Int × Int × List Int × Int :=
  if un (upd 0#32 ((l.drop 2).take (l.length - 6))) ≠ tailS l then (4, 0, [], 1)
  else if at_ l 2 ≠ 1 then (3, 0, [], l.length)
  else if at_ l 3 < 1 ∨ 22 < at_ l 3 then (5, 0, [], l.length)
  else (0, at_ l 3, (l.drop 6).take (l.length - 10), l.length)
theorem tail_bd {l : List Int} (hby : Byte l) (h4 : 10 ≤ l.length) : 0 ≤ tailS l ∧ tailS l ≤ 4294967295 := by
  have b0 := hby _ (at_mem (show l.length - 4 < l.length by omega))
  have b1 := hby _ (at_mem (show l.length - 3 < l.length by omega))
  have b2 := hby _ (at_mem (show l.length - 2 < l.length by omega))
  have b3 := hby _ (at_mem (show l.length - 1 < l.length by omega))
  unfold tailS sum4
  omega
set_option maxRecDepth 20000 in
theorem judge_any (A : Option Addr) (c : Nat) (l : List Int) (w : World) (hs : Ints .u8 w w.heap.size A l) (hby : Byte l) (h4 : 10 ≤ l.length) (h5 : l.length ≤ 210) (hc : l.length ≤ c) (hcm : c ≤ 9223372036854775807) :
    Calls Try.prog 22 #[.slice A l.length c] w fun e w' => Below w.heap.size w w' ∧ ∃ (P : Option Addr) (pc : Nat),
      e = .returned (.tuple #[.agg #[.int .i64 (jud l).1, .int .i64 (jud l).2.1, .slice P (jud l).2.2.1.length pc], .int .i64 (jud l).2.2.2, .bool true]) ∧ Ints .u8 w' w'.heap.size P (jud l).2.2.1 ∧ (∀ a, P = some a → w.heap.size ≤ a.block) := by
  obtain ⟨b, off, rfl, hB, hcell⟩ := hs (by omega)
  have R := Blk.new (w := w) (t := 36) (cs := #[.int .i64 0, .int .i64 0, .slice none 0 0])
  have bW := lat_alloc (Below.refl w.heap.size w) (.cells #[.int .i64 0, .int .i64 0, .slice none 0 0] 36)
  have hW := (hs.below bW).more bW.size
  generalize hw1 : w.alloc (.cells #[.int .i64 0, .int .i64 0, .slice none 0 0] 36) = W at R bW hW
  have HW := Lib.hid hw1
  clear hw1
  obtain ⟨n, hn⟩ : ∃ n, l.length = n + 10 := ⟨l.length - 10, by omega⟩
  have hP : Ints .u8 W W.heap.size (some ⟨b, off + 2, none⟩) ((l.drop 2).take (n + 4)) := (hW.drop 2).take (n + 4)
  have hPl : ((l.drop 2).take (n + 4)).length = n + 4 := by simp; omega
  have e6 : l.length - 6 = n + 4 := by omega
  have hPb : Byte ((l.drop 2).take (n + 4)) := (hby.drop 2).take _
  rw [hn] at h4 h5 hc
  have HS := sum_any (some ⟨b, off + 2, none⟩) (c - 2) ((l.drop 2).take (n + 4)) W hP hPb (by omega)
  rw [hPl] at HS
  have HO := sumOf_any (some ⟨b, off, none⟩) c l W hW hby (by omega) (by omega) hcm
  have hc2 : ¬ c = 2 := by omega
  have ht := Lib.hid (tail_bd hby (by omega))
  have m2 := (bcell bW).1 b (off + 2) hB
  have m3 := (bcell bW).1 b (off + 3) hB
  rw [hcell 2 (by omega)] at m2
  rw [hcell 3 (by omega)] at m3
  rw [hn] at HO ⊢
  have HS' := Lib.hid HS
  have HO' := Lib.hid HO
  clear HS HO hP hPl hPb hcell hs
  go_enter Try.func22, Try.ntmps22
  go_wp2_with fail
  rw [HW.out]
  refine HS'.out.mono ?_; rintro e w' ⟨rfl, hw'⟩; subst hw'
  go_wp2_with fail
  refine HO'.out.mono ?_; rintro e w' ⟨rfl, hw'⟩; subst hw'
  have hg : w.heap.size ≤ w.heap.size := Nat.le_refl _
  obtain ⟨r0, r1, r2, rf0, rf1, rf2⟩ := R.three
  have hx2 := hby _ (at_mem (show 2 < l.length by omega))
  have hx3 := hby _ (at_mem (show 3 < l.length by omega))
  by_cases j0 : un (upd 0#32 ((l.drop 2).take (n + 4))) = tailS l
  · have q0 : (un (upd 0#32 ((l.drop 2).take (n + 4))) == tailS l) = true := by simpa using j0
    by_cases j1 : at_ l 2 = 1
    · have q1 : (at_ l 2 == 1) = true := by simpa using j1
      by_cases j2 : at_ l 3 < 1
      · have hj := Lib.hid (show jud l = (5, 0, [], (l.length : Int)) by rw [jud, e6, if_neg (by simpa using j0), if_neg (by simpa using j1), if_pos (.inl j2)])
        clear j0 j1
        go_wp2
        (try simp only [Exit.inBlock, Exit.then]); refine bodyPost_ret (results_cell_tmp2 rfl rfl (load_item (Blk.set3 R _ _ _))) rfl ?_
        rw [hj.out]
        rw [hn]
        exact ⟨below_set3 bW hg _ _ _, none, 0, rfl, Ints.nil_, fun _ h => by cases h⟩
      · by_cases j3 : 22 < at_ l 3
        · have hj := Lib.hid (show jud l = (5, 0, [], (l.length : Int)) by rw [jud, e6, if_neg (by simpa using j0), if_neg (by simpa using j1), if_pos (.inr j3)])
          clear j0 j1
          go_wp2
          (try simp only [Exit.inBlock, Exit.then]); refine bodyPost_ret (results_cell_tmp2 rfl rfl (load_item (Blk.set3 R _ _ _))) rfl ?_
          rw [hj.out]
          rw [hn]
          exact ⟨below_set3 bW hg _ _ _, none, 0, rfl, Ints.nil_, fun _ h => by cases h⟩
        · have hj := Lib.hid (show jud l = (0, at_ l 3, (l.drop 6).take n, (l.length : Int)) by rw [jud, e6, show l.length - 10 = n by omega, if_neg (by simpa using j0), if_neg (by simpa using j1), if_neg (by omega)])
          clear j0 j1
          have R1 : RowB (W.alloc (.cells (madeCells #[.int .u8 0] n) 5)) W.heap.size (List.replicate n 0) := by
            have := Blk.new (w := W) (t := 5) (cs := madeCells #[.int .u8 0] n)
            unfold RowB
            rw [← made_zeros8]
            exact this
          have bW1 := lat_alloc (Below.refl W.heap.size W) (.cells (madeCells #[.int .u8 0] n) 5)
          have hm1 : Ints .u8 (W.alloc (.cells (madeCells #[.int .u8 0] n) 5)) (W.alloc (.cells (madeCells #[.int .u8 0] n) 5)).heap.size (some ⟨b, off + 6, none⟩) ((l.drop 6).take n) := ((((hW.below bW1).more bW1.size).drop 6).take n)
          have hml : ((l.drop 6).take n).length = n := by simp; omega
          have hc6 : ¬ c = 6 := by omega
          have hmin : n = Nat.min (n + 4) n := (Nat.min_eq_right (by omega)).symm
          have hsp : splice (List.replicate n (0 : Int)) 0 ((l.drop 6).take n) = (l.drop 6).take n := by
            unfold splice
            rw [List.take_zero, hml, Nat.zero_add, List.drop_eq_nil_of_le (show (List.replicate n (0 : Int)).length ≤ n by rw [List.length_replicate]; exact Nat.le_refl _)]
            simp
          generalize hw2 : W.alloc (.cells (madeCells #[.int .u8 0] n) 5) = W2 at R1 bW1 hm1
          have HW2 := Lib.hid hw2
          have HMIN := Lib.hid hmin
          have HML := Lib.hid hml
          have HSP := Lib.hid hsp
          clear hw2 hmin hml hsp
          go_wp2_with (first
            | (obtain ⟨ii, hi0, hi1, hi2, hi3⟩ := info_parts byte_info; refine wpList_make_row _ rfl _ _ 22 rfl 5 ii (.int .u8 0) Try.underlying22 hi0 hi1 hi2 rfl .i64 .i64 n (congrArg (Value.int IntKind.i64) (show (n : Int) + 10 - 6 - 4 = n by omega)) (congrArg (Value.int IntKind.i64) (show (n : Int) + 10 - 6 - 4 = n by omega)) (by rw [hi3]; omega) (by omega) ?_)
            | (rw [HW2.out]; refine wpList_copy_min rfl (.tmp 42) (.tmp 44) 22 rfl Try.underlying22 (by kernel_rfl) W.heap.size 0 n n _ (n + 4) _ n rfl rfl (List.replicate n 0) ((l.drop 6).take n) R1 HML.out hm1 HMIN.out (by simp) W.heap.size W bW1 (Nat.le_refl _) ?_; intro w5 R5 b5; rw [HSP.out] at R5; have R' := Blk.below R b5; obtain ⟨t0, t1, t2, tf0, tf1, tf2⟩ := R'.three))
          (try simp only [Exit.inBlock, Exit.then]); refine bodyPost_ret (results_cell_tmp2 rfl rfl (load_item (Blk.set3 R' _ _ _))) rfl ?_
          rw [hj.out]
          have hne : W.heap.size ≠ w.heap.size := by have := R.lt; omega
          have R6 := Blk.far3 R5 hne (.int .i64 0) (.int .i64 (at_ l 3)) (.slice (some ⟨W.heap.size, 0, none⟩) n n)
          exact ⟨below_set3 (bW.trans (b5.mono bW.size)) hg _ _ _, some ⟨W.heap.size, 0, none⟩, n, by rw [HML.out, hn]; rfl, RowB.ints R6, fun a h => by injection h with h; subst h; exact bW.size⟩
    · have q1 : (at_ l 2 == 1) = false := by simpa using j1
      have hj := Lib.hid (show jud l = (3, 0, [], (l.length : Int)) by rw [jud, e6, if_neg (by simpa using j0), if_pos j1])
      clear j0 j1
      go_wp2
      (try simp only [Exit.inBlock, Exit.then]); refine bodyPost_ret (results_cell_tmp2 rfl rfl (load_item (Blk.set3 R _ _ _))) rfl ?_
      rw [hj.out]
      rw [hn]
      exact ⟨below_set3 bW hg _ _ _, none, 0, rfl, Ints.nil_, fun _ h => by cases h⟩
  · have q0 : (un (upd 0#32 ((l.drop 2).take (n + 4))) == tailS l) = false := by simpa using j0
    have hj := Lib.hid (show jud l = (4, 0, [], 1) by rw [jud, e6, if_pos j0])
    clear j0
    go_wp2
    (try simp only [Exit.inBlock, Exit.then]); refine bodyPost_ret (results_cell_tmp2 rfl rfl (load_item (Blk.set3 R _ _ _))) rfl ?_
    rw [hj.out]
    exact ⟨below_set3 bW hg _ _ _, none, 0, rfl, Ints.nil_, fun _ h => by cases h⟩
end Go.Proofs.Ytahemaondkjpiaa
