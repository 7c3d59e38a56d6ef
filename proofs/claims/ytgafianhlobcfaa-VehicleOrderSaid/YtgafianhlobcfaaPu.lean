/-
  A vehicle is put into a list. Conditions: the list is in memory.
-/
import Derived.Test.YtgafianhlobcfaaIx
import Derived.Test.YtgafianhlobcfaaCp
import Derived.Test.YtgafianhlobcfaaR
import Derived.Laws.MakeOwn
import Derived.Deep.OwnRows
namespace Go.Proofs.Ytgafianhlobcfaa
open Go.ChangeShapes Go.WideShapes Go.RowKit
set_option linter.unusedVariables false

theorem ve_info : (Try.prog.info? 25).map (fun i => (i.zero, i.size, i.bytes)) = some (some (.agg #[.int .i64 0, .int .i64 0]), 2, 16) := by kernel_rfl
theorem ve_size : (Try.prog.info? 25).map (·.size) = some 2 := by kernel_rfl
def atF (id : Int) : List Ve → Nat
  | [] => 0
  | x :: V => if x.id < id then atF id V + 1 else 0
/-- A new row of n + 1 items. -/
theorem make_ve (n : Nat) (hn : n ≤ 1000000) : ∃ ZA : Array Value, ZA.size = (n + 1) * 2 ∧ ∀ w' : World, (Instr.makeSlice 22 (.int .i64 ((n : Int) + 1)) (.int .i64 ((n : Int) + 1))).run Try.prog w' = .ok (.slice (some ⟨w'.heap.size, 0, none⟩) (n + 1) (n + 1)) (w'.alloc (.cells ZA 25)) := by
  obtain ⟨i, hi, hz, hsz, hby⟩ := info_parts ve_info
  refine ⟨madeCells (Value.agg #[.int .i64 0, .int .i64 0]).cells ((n + 1) * i.size), by rw [size_madeCells, hsz], fun w' => ?_⟩
  have h := run_make (P := Try.prog) (w := w') 22 25 i _ Try.underlying22 hi hz .i64 .i64 ((n : Int) + 1) ((n : Int) + 1) (by omega) (Int.le_refl _) (by rw [hby]; omega) (by omega)
  rw [show ((n : Int) + 1).toNat = n + 1 by omega] at h
  exact h
theorem atF_le (id : Int) : ∀ V : List Ve, atF id V ≤ V.length
  | [] => by simp [atF]
  | x :: V => by
    have := atF_le id V
    simp only [atF, List.length_cons]
    split <;> omega
def insV (v : Ve) (V : List Ve) : List Ve := V.take (atF v.id V) ++ v :: V.drop (atF v.id V)
theorem flat_one : ∀ (V : List Ve), ∀ v ∈ V.flatMap Ve.cells, v.oneCell' = true := fun V v hv => by
  obtain ⟨x, _, hx⟩ := List.mem_flatMap.1 hv
  simp only [Ve.cells, List.mem_cons, List.not_mem_nil, or_false] at hx
  rcases hx with rfl | rfl <;> rfl
/-- The cells of a part of the list, where they lie. -/
theorem vs_cell {w : World} {b off : Nat} {V : List Ve} (hc : ∀ i, i < V.length → VeHere w b (off + i * 2) (veAt V i)) (j : Nat) (v : Value) (h : (V.flatMap Ve.cells)[j]? = some v) : w.cell? ⟨b, off + j, none⟩ = some v := by
  have hlen := flat_len Ve.cells 2 (fun _ => rfl) V
  have hj : j < V.length * 2 := by
    rcases Nat.lt_or_ge j (V.flatMap Ve.cells).length with h' | h'
    · omega
    · rw [List.getElem?_eq_none h'] at h; cases h
  have hi : j / 2 < V.length := by omega
  have e := flat_get Ve.cells 2 (fun _ => rfl) V (j / 2) (j % 2) _ (veAt_get hi) (by omega)
  rw [show j / 2 * 2 + j % 2 = j by omega, h] at e
  obtain ⟨c0, c1⟩ := hc _ hi
  have h2 : j % 2 = 0 ∨ j % 2 = 1 := by omega
  rcases h2 with h2 | h2
  · rw [h2] at e
    rw [show off + j = off + j / 2 * 2 by omega, c0]
    exact e.symm
  · rw [h2] at e
    rw [show off + j = off + j / 2 * 2 + 1 by omega, c1]
    exact e.symm
theorem vs_src {w : World} {B : Nat} {A : Option Addr} {V : List Ve} {b off : Nat} (h : ∃ b off, A = some ⟨b, off, none⟩ ∧ b < B ∧ ∀ i, i < V.length → VeHere w b (off + i * 2) (veAt V i)) (hA : A = some ⟨b, off, none⟩) (q : Nat) (j : Nat) (v : Value) (hj : ((V.drop q).flatMap Ve.cells)[j]? = some v) : w.cell? ((⟨b, off + q * 2, none⟩ : Addr).add j) = some v := by
  obtain ⟨b', off', hA', hB, hc⟩ := h
  rw [hA] at hA'
  injection hA' with e
  injection e with e1 e2 _
  subst e1 e2
  have e1 : (Addr.add ⟨b, off + q * 2, none⟩ j) = ⟨b, off + q * 2 + j, none⟩ := by unfold Addr.add; split <;> simp_all
  rw [e1]
  refine vs_cell (off := off + q * 2) (fun i hi => ?_) j v hj
  rw [List.length_drop] at hi
  have h2 := hc (q + i) (by omega)
  have e3 : veAt (V.drop q) i = veAt V (q + i) := by simp [veAt]
  rw [e3, show off + q * 2 + i * 2 = off + (q + i) * 2 by omega]
  exact h2
theorem take_src {w : World} {B : Nat} {A : Option Addr} {V : List Ve} {b off : Nat} (h : ∃ b off, A = some ⟨b, off, none⟩ ∧ b < B ∧ ∀ i, i < V.length → VeHere w b (off + i * 2) (veAt V i)) (hA : A = some ⟨b, off, none⟩) (q : Nat) (j : Nat) (v : Value) (hj : ((V.take q).flatMap Ve.cells)[j]? = some v) : w.cell? ((⟨b, off, none⟩ : Addr).add j) = some v := by
  obtain ⟨b', off', hA', hB, hc⟩ := h
  rw [hA] at hA'
  injection hA' with e
  injection e with e1 e2 _
  subst e1 e2
  have e1 : (Addr.add ⟨b, off, none⟩ j) = ⟨b, off + j, none⟩ := by unfold Addr.add; split <;> simp_all
  rw [e1]
  refine vs_cell (off := off) (fun i hi => ?_) j v hj
  rw [List.length_take] at hi
  have h2 := hc i (by omega)
  have e3 : veAt (V.take q) i = veAt V i := by
    unfold veAt
    rw [List.getD_eq_getElem?_getD, List.getD_eq_getElem?_getD, List.getElem?_take_of_lt (by omega)]
  rw [e3]
  exact h2
/-- A fresh row that holds a list. -/
theorem blk_vs {w : World} {g : Nat} {V : List Ve} (h : Blk w g 25 (V.flatMap Ve.cells).toArray) : Vs w w.heap.size (some ⟨g, 0, none⟩) V := fun _ => by
  refine ⟨g, 0, rfl, h.lt, fun i hi => ?_⟩
  have h0 := flat_get Ve.cells 2 (fun _ => rfl) V i 0 _ (veAt_get hi) (by omega)
  have h1 := flat_get Ve.cells 2 (fun _ => rfl) V i 1 _ (veAt_get hi) (by omega)
  have c0 := h.cell (i * 2)
  have c1 := h.cell (i * 2 + 1)
  rw [Nat.zero_add]
  exact ⟨by rw [c0]; simpa [Ve.cells] using h0, by rw [c1]; simpa [Ve.cells] using h1⟩
theorem put_list {Z : List Value} {V : List Ve} {v : Ve} {q : Nat} (hq : q ≤ V.length) (hZ : Z.length = (V.length + 1) * 2) :
    splice (((splice Z 0 ((V.take q).flatMap Ve.cells)).set (q * 2) (.int .i64 v.id)).set (q * 2 + 1) (.int .i64 v.cl)) ((q + 1) * 2) ((V.drop q).flatMap Ve.cells) = (V.take q ++ v :: V.drop q).flatMap Ve.cells := by
  have l1 : ((V.take q).flatMap Ve.cells).length = q * 2 := by rw [flat_len Ve.cells 2 (fun _ => rfl), List.length_take]; omega
  have l2 : ((V.drop q).flatMap Ve.cells).length = (V.length - q) * 2 := by rw [flat_len Ve.cells 2 (fun _ => rfl), List.length_drop]
  rw [List.flatMap_append, List.flatMap_cons]
  generalize (V.take q).flatMap Ve.cells = F1 at *
  generalize (V.drop q).flatMap Ve.cells = F2 at *
  obtain ⟨z0, z1, R, hR⟩ : ∃ z0 z1 R, Z.drop (q * 2) = z0 :: z1 :: R := by
    have hl : (Z.drop (q * 2)).length = (V.length - q) * 2 + 2 := by rw [List.length_drop]; omega
    match h : Z.drop (q * 2) with
    | [] => rw [h] at hl; simp at hl
    | [_] => rw [h] at hl; simp at hl
    | a :: b :: R => exact ⟨a, b, R, rfl⟩
  have hRl : R.length = (V.length - q) * 2 := by
    have hl : (Z.drop (q * 2)).length = (V.length - q) * 2 + 2 := by rw [List.length_drop]; omega
    rw [hR] at hl; simpa using hl
  have e1 : splice Z 0 F1 = F1 ++ (z0 :: z1 :: R) := by
    unfold splice
    rw [Nat.zero_add, l1, hR]; simp
  rw [e1, List.set_append_right _ _ (by omega), l1, Nat.sub_self, List.set_cons_zero, List.set_append_right _ _ (by omega), l1, show q * 2 + 1 - q * 2 = 1 by omega]
  simp only [List.set_cons_succ, List.set_cons_zero]
  unfold splice
  rw [List.take_append, List.drop_append, l1, show (q + 1) * 2 - q * 2 = 2 by omega, List.take_of_length_le (by omega), List.drop_eq_nil_of_le (by omega)]
  rw [show (q + 1) * 2 + F2.length - q * 2 = F2.length + 2 by omega]
  simp only [List.take_succ_cons, List.take_zero, List.drop_succ_cons, List.nil_append]
  rw [List.drop_eq_nil_of_le (by omega)]
  simp [Ve.cells]
theorem cell_ex {w : World} {g : Nat} {t : TypeId} {L : List Value} (h : Blk w g t L.toArray) {i : Nat} (hi : i < L.length) : w.cell? ⟨g, i, none⟩ = some (L.getD i undef) := by rw [h.cell]; simp [hi]
/-- A list that was there, behind the change of a new block. -/
theorem Vs.grownN {w w' : World} {A : Option Addr} {V : List Ve} {B g : Nat} (h : Vs w B A V) (hB : B ≤ g) (hBs : B ≤ w.heap.size) (hg : w.grownBy w' (some g)) : Vs w' w'.heap.size A V := fun h0 => by
  obtain ⟨b, off, hA, hb, hc⟩ := h h0
  have hcell : ∀ o, w'.cell? ⟨b, o, none⟩ = w.cell? ⟨b, o, none⟩ := fun o => World.cell?_of_block (hg.block b (by omega) (fun e => by injection e with e; omega))
  exact ⟨b, off, hA, by have := hg.size; omega, fun i hi => ⟨(hcell _).trans (hc i hi).1, (hcell _).trans (hc i hi).2⟩⟩
set_option maxRecDepth 20000 in
set_option maxHeartbeats 2000000 in
theorem put_any (A : Option Addr) (c : Nat) (V : List Ve) (v : Ve) (w : World) (hs : Vs w w.heap.size A V) (hl : V.length ≤ 1000000) (hlc : V.length ≤ c) (hcm : c ≤ 9223372036854775807) :
    Calls Try.prog 27 #[.slice A V.length c, .agg #[.int .i64 v.id, .int .i64 v.cl]] w fun e w' => Below w.heap.size w w' ∧ ∃ g, e = .returned (.slice (some ⟨g, 0, none⟩) (V.length + 1) (V.length + 1)) ∧ w.heap.size ≤ g ∧ Blk w' g 25 ((insV v V).flatMap Ve.cells).toArray := by
  have bX := lat_alloc (Below.refl w.heap.size w) (.cells #[.int .i64 v.id, .int .i64 v.cl] 25)
  have B0 := Blk.new (w := w) (t := 25) (cs := #[.int .i64 v.id, .int .i64 v.cl])
  have hs0 := hs.grow bX
  go_enter Try.func27, Try.ntmps27
  go_wp2_with fail
  generalize w.alloc (.cells #[.int .i64 v.id, .int .i64 v.cl] 25) = W at *
  go_loopw [5] (fun i wr => ∃ k : Nat, k ≤ V.length ∧ i = .int .i64 k ∧ Below W.heap.size W wr ∧ Go.RowKit.Hid (atF v.id V = k + atF v.id (V.drop k))) (fun i _ => V.length - (intOf i).toNat)
  case atStart => exact ⟨0, by omega, rfl, Below.refl _ _, Lib.hid (by simp)⟩
  case round =>
    obtain ⟨k, hk, rfl, hbr, HV⟩ := hrel
    have hsr := hs0.grow hbr
    have Br := B0.below hbr
    by_cases hlt : k < V.length
    · have hlt' : (k : Int) < V.length := by omega
      have zl : decide ((k : Int) < (V.length : Int)) = true := by simpa using hlt
      obtain ⟨b, off, hA, hB, hv⟩ := hsr.at hlt
      have HA := Lib.hid hA
      have HD := Lib.hid (drop_ve hlt)
      subst hA
      generalize veAt V k = x at *
      by_cases h : x.id < v.id
      · have z : decide (x.id < v.id) = true := by simpa using h
        have HX : Hid (atF v.id V = k + 1 + atF v.id (V.drop (k + 1))) := Lib.hid (by rw [HV.out, HD.out, atF, if_pos h]; omega)
        clear h
        obtain ⟨c0, c1⟩ := hv.later hB
        go_wp2_with fail
        have o0 := Br.laterN 0 rfl
        have o1 := Br.laterN 1 rfl
        refine wp_region_grow (by kernel_rfl) (by kernel_rfl) ?_
        repeat' (first
            | go_big_quiet_skip
            | (go_big_quiet_want; first
                | (go_big_quiet_op; go_big_quiet_on)
                | (refine quiet_det ?_; apply Exists.intro; refine ⟨fun w' hC => ?_, ?_⟩; (go_simp <;> (first | rfl | exact ⟨rfl, rfl⟩)); apply Exists.intro; refine ⟨?_, ?_⟩; (go_simp <;> (first | rfl | exact ⟨rfl, rfl⟩)); go_big_quiet_on)
                | (show Oper.quiet _ { dst := _, op := .call { callee := .value _, args := _, argTypes := _ }, type := _, pos := _, after := _, guard := _ } _ _ _; refine quiet_call ?_; apply Exists.intro; apply Exists.intro; refine ⟨fun w' hC => ?_, ?_⟩; (go_simp <;> (first | rfl | exact ⟨rfl, rfl⟩)); apply Exists.intro; refine ⟨fun w' hC => ?_, ?_⟩; (first

                    | fail); apply Exists.intro; refine ⟨?_, ?_⟩; (go_simp <;> (first | rfl | exact ⟨rfl, rfl⟩)); go_big_quiet_on)))
        all_goals refine wpQuiet_nil ?_
        intro w2 hb2
        clear c0 c1 o0 o1
        go_wp2
        go_roundw
        case rel => exact ⟨k + 1, by omega, by go_num, hbr.trans (hb2.mono hbr.size), HX⟩
        case measure => simp [intOf]; omega
      · have z : decide (x.id < v.id) = false := by simpa using h
        have HX : Hid (atF v.id V = k) := Lib.hid (by rw [HV.out, HD.out, atF, if_neg h]; omega)
        clear h
        obtain ⟨c0, c1⟩ := hv.later hB
        go_wp2_with fail
        have o0 := Br.laterN 0 rfl
        have o1 := Br.laterN 1 rfl
        refine wp_region_grow (by kernel_rfl) (by kernel_rfl) ?_
        repeat' (first
            | go_big_quiet_skip
            | (go_big_quiet_want; first
                | (go_big_quiet_op; go_big_quiet_on)
                | (refine quiet_det ?_; apply Exists.intro; refine ⟨fun w' hC => ?_, ?_⟩; (go_simp <;> (first | rfl | exact ⟨rfl, rfl⟩)); apply Exists.intro; refine ⟨?_, ?_⟩; (go_simp <;> (first | rfl | exact ⟨rfl, rfl⟩)); go_big_quiet_on)
                | (show Oper.quiet _ { dst := _, op := .call { callee := .value _, args := _, argTypes := _ }, type := _, pos := _, after := _, guard := _ } _ _ _; refine quiet_call ?_; apply Exists.intro; apply Exists.intro; refine ⟨fun w' hC => ?_, ?_⟩; (go_simp <;> (first | rfl | exact ⟨rfl, rfl⟩)); apply Exists.intro; refine ⟨fun w' hC => ?_, ?_⟩; (first

                    | fail); apply Exists.intro; refine ⟨?_, ?_⟩; (go_simp <;> (first | rfl | exact ⟨rfl, rfl⟩)); go_big_quiet_on)))
        all_goals refine wpQuiet_nil ?_
        intro w2 hb2
        clear c0 c1 o0 o1
        have Bq := Br.below hb2
        have hsq := hsr.grow hb2
        have hbq : Below w.heap.size w w2 := bX.trans ((hbr.trans (hb2.mono hbr.size)).mono bX.size)
        have hqle : k ≤ V.length := hk
        have hwl : IntKind.i64.wrap ((V.length : Int) + 1) = (V.length : Int) + 1 := by rw [IntKind.wrap_i64]; omega
        obtain ⟨ZA, hZA, hmk⟩ := make_ve V.length hl
        clear hbr hb2 Br hsr HV
        have hsz := Bq.lt
        have R0 : Blk (w2.alloc (.cells ZA 25)) w2.heap.size 25 ZA.toList.toArray := by rw [Array.toArray_toList]; exact Blk.new
        have Bq2 := Bq.alloc (.cells ZA 25)
        have bA := lat_alloc (Below.refl w2.heap.size w2) (.cells ZA 25)
        have hsA := hsq.below bA
        have hbA := hbq.trans (bA.mono hbq.size)
        have lt1 : ((V.take k).flatMap Ve.cells).length = k * 2 := by rw [flat_len Ve.cells 2 (fun _ => rfl), List.length_take]; omega
        have hfit1 : 0 + ((V.take k).flatMap Ve.cells).length ≤ ZA.toList.length := by rw [lt1, Array.length_toList (xs := ZA)]; omega
        go_wp2_with (show wpList _ _ _ (Oper.mk (some 31) _ _ _ _ _ :: _) _ _; refine wpList_copy_many rfl (.tmp 27) (.tmp 30) 22 22 rfl 25 2 (by omega) Try.underlying22 ve_size _ _ _ _ _ _ rfl rfl w2.heap.size 0 ZA.toList 25 R0 ((V.take k).flatMap Ve.cells) lt1 (by omega) (fun hp => ?hp) hfit1 (flat_one _) w.heap.size w hbA (by omega) ?_; (case hp => (have h0 := hsA (by omega); obtain ⟨b', off', hA', hB', hc'⟩ := h0; refine ⟨rfl, ?_⟩; exact ⟨_, hA', take_src ⟨b', off', hA', hB', hc'⟩ hA' k⟩)); intro w3 R1 b3 g3; have hs3 := hsA.grownN (Nat.le_refl _) (by rw [heap_size]; omega) g3; have B3 := Bq2.grown g3 (by intro e; injection e with e; omega); have p0 := B3.at 0 rfl; have p1 := B3.at 1 rfl; have lsp : (splice ZA.toList 0 ((V.take k).flatMap Ve.cells)).length = (V.length + 1) * 2 := (by rw [length_splice _ _ _ hfit1, Array.length_toList (xs := ZA)]; exact hZA); have hz0 := cell_ex (L := splice ZA.toList 0 ((V.take k).flatMap Ve.cells)) R1 (i := k * 2) (by rw [lsp]; omega); have hz1 := cell_ex (L := splice ZA.toList 0 ((V.take k).flatMap Ve.cells)) R1 (i := k * 2 + 1) (by rw [lsp]; omega); have f0 := R1.frozen (k * 2); have f1 := R1.frozen (k * 2 + 1))
        have hgw : w.heap.size ≤ w2.heap.size := Nat.le_of_lt hsz
        have HF : Hid (splice (((splice ZA.toList 0 ((V.take k).flatMap Ve.cells)).set (k * 2) (.int .i64 v.id)).set (k * 2 + 1) (.int .i64 v.cl)) ((k + 1) * 2) ((V.drop k).flatMap Ve.cells) = (insV v V).flatMap Ve.cells) := Lib.hid (by unfold insV; rw [HX.out]; exact put_list hk (by rw [Array.length_toList (xs := ZA)]; exact hZA))
        have hll : (((splice ZA.toList 0 ((V.take k).flatMap Ve.cells)).set (k * 2) (.int .i64 v.id)).set (k * 2 + 1) (.int .i64 v.cl)).length = (V.length + 1) * 2 := by rw [List.length_set, List.length_set]; exact lsp
        have R3 : Blk ((w3.setCell ⟨w2.heap.size, k * 2, none⟩ (.int .i64 v.id)).setCell ⟨w2.heap.size, k * 2 + 1, none⟩ (.int .i64 v.cl)) w2.heap.size 25 (((splice ZA.toList 0 ((V.take k).flatMap Ve.cells)).set (k * 2) (.int .i64 v.id)).set (k * 2 + 1) (.int .i64 v.cl)).toArray := by
          have h := (R1.set_ (k * 2) (.int .i64 v.id)).set_ (k * 2 + 1) (.int .i64 v.cl)
          rw [List.setIfInBounds_toArray, List.setIfInBounds_toArray] at h
          exact h
        have hs3 := hsA.grownN (Nat.le_refl _) (by rw [heap_size]; omega) ((g3.trans (grownBy_set w3 w2.heap.size (k * 2) (.int .i64 v.id))).trans (grownBy_set _ w2.heap.size (k * 2 + 1) (.int .i64 v.cl)))
        have bW3 := (b3.setCell (p := ⟨w2.heap.size, k * 2, none⟩) hgw (.int .i64 v.id)).setCell (p := ⟨w2.heap.size, k * 2 + 1, none⟩) hgw (.int .i64 v.cl)
        clear hz0 hz1 f0 f1 p0 p1 R1 b3 g3 lsp lt1 hmk hbA hsA bA Bq2 R0 B3
        generalize (w3.setCell ⟨w2.heap.size, k * 2, none⟩ (.int .i64 v.id)).setCell ⟨w2.heap.size, k * 2 + 1, none⟩ (.int .i64 v.cl) = W3 at *
        generalize ((splice ZA.toList 0 ((V.take k).flatMap Ve.cells)).set (k * 2) (.int .i64 v.id)).set (k * 2 + 1) (.int .i64 v.cl) = L2 at *
        have HL2 := Lib.hid hll
        clear hll
        refine wp_region_pre (R := Bl) 7 45 [fun v _ => v = (.slice (some ⟨w2.heap.size, 0, none⟩) (V.length + 1) (V.length + 1)), fun v _ => v = .int .i64 k, fun v _ => v = .int .i64 ((k : Int) + 1), fun v w => ∃ dp, v = .slice dp (V.length - k) (V.length - k) ∧ (k < V.length → dp = some ⟨w2.heap.size, (k + 1) * 2, none⟩), fun v _ => v = .slice (some ⟨b, off, none⟩) V.length c, fun v _ => v = .int .i64 k, fun v w => ∃ sp, v = .slice sp (V.length - k) (c - k) ∧ (∀ bb oo : Nat, (some ⟨b, off, none⟩) = some (⟨bb, oo, none⟩ : Addr) → k < V.length → sp = some (⟨bb, oo + k * 2, none⟩ : Addr))] (Bl.trans) (Bl.drew) (by kernel_rfl) (fun _ _ d _ _ h => by cases d <;> exact h) rfl (by kernel_rfl) (stay_cons (stays_v _) (stay_cons (stays_v _) (stay_cons (stays_v _) (stay_cons (fun v _ _ h _ => h) (stay_cons (stays_v _) (stay_cons (stays_v _) (stay_cons (fun v _ _ h _ => h) (stay_nil)))))))) ?_ ?_
        · simp only [List.take_succ_cons, List.take_zero]
          refine steps_cons (Bl.refl) (fun ev xw hb hc hf hfr hd hr => ?_) ?_
          · have e6 : ev (.tmp 6) = (.slice (some ⟨w2.heap.size, 0, none⟩) (V.length + 1) (V.length + 1)) := hfr 6 (by kernel_rfl)
            clear hfr hd
            show OpOk _ _ ev xw fun v w' => Bl xw w' ∧ (v = (.slice (some ⟨w2.heap.size, 0, none⟩) (V.length + 1) (V.length + 1)))
            refine opOk_hid (fun Rp HR => ?_)
            unfold OpOk
            go_simp
            rw [HR.out]
            exact ⟨hr, rfl⟩
          refine steps_cons (Bl.refl) (fun ev xw hb hc hf hfr hd hr => ?_) ?_
          · have e5 : ev (.tmp 5) = .int .i64 k := hfr 5 (by kernel_rfl)
            clear hfr hd
            show OpOk _ _ ev xw fun v w' => Bl xw w' ∧ (v = .int .i64 k)
            refine opOk_hid (fun Rp HR => ?_)
            unfold OpOk
            go_simp
            rw [HR.out]
            exact ⟨hr, rfl⟩
          refine steps_cons (Bl.refl) (fun ev xw hb hc hf hfr hd hr => ?_) ?_
          · have e37 : ev (.tmp 37) = .int .i64 k := hd 1 37 (by kernel_rfl)
            clear hfr hd
            have hwq : IntKind.i64.wrap ((k : Int) + 1) = (k : Int) + 1 := by rw [IntKind.wrap_i64]; omega
            show OpOk _ _ ev xw fun v w' => Bl xw w' ∧ (v = .int .i64 ((k : Int) + 1))
            refine opOk_hid (fun Rp HR => ?_)
            unfold OpOk
            go_simp
            rw [HR.out]
            exact ⟨hr, rfl⟩
          refine steps_cons (Bl.refl) (fun ev xw hb hc hf hfr hd hr => ?_) ?_
          · have e36 : ev (.tmp 36) = (.slice (some ⟨w2.heap.size, 0, none⟩) (V.length + 1) (V.length + 1)) := hd 0 36 (by kernel_rfl)
            have e38 : ev (.tmp 38) = .int .i64 ((k : Int) + 1) := hd 2 38 (by kernel_rfl)
            clear hfr hd
            show OpOk _ _ ev xw fun v w' => Bl xw w' ∧ (∃ dp, v = .slice dp (V.length - k) (V.length - k) ∧ (k < V.length → dp = some ⟨w2.heap.size, (k + 1) * 2, none⟩))
            refine opOk_hid (fun Rp HR => ?_)
            unfold OpOk
            go_simp
            rw [HR.out]
            refine ⟨hr, _, rfl, fun hq => ?_⟩
            first | (exfalso; omega) | rw [if_neg (by omega)]
          refine steps_cons (Bl.refl) (fun ev xw hb hc hf hfr hd hr => ?_) ?_
          · have e0 : ev (.tmp 0) = .slice (some ⟨b, off, none⟩) V.length c := hfr 0 (by kernel_rfl)
            clear hfr hd
            show OpOk _ _ ev xw fun v w' => Bl xw w' ∧ (v = .slice (some ⟨b, off, none⟩) V.length c)
            refine opOk_hid (fun Rp HR => ?_)
            unfold OpOk
            go_simp
            rw [HR.out]
            exact ⟨hr, rfl⟩
          refine steps_cons (Bl.refl) (fun ev xw hb hc hf hfr hd hr => ?_) ?_
          · have e5 : ev (.tmp 5) = .int .i64 k := hfr 5 (by kernel_rfl)
            clear hfr hd
            show OpOk _ _ ev xw fun v w' => Bl xw w' ∧ (v = .int .i64 k)
            refine opOk_hid (fun Rp HR => ?_)
            unfold OpOk
            go_simp
            rw [HR.out]
            exact ⟨hr, rfl⟩
          refine steps_cons (Bl.refl) (fun ev xw hb hc hf hfr hd hr => ?_) ?_
          · have e40 : ev (.tmp 40) = .slice (some ⟨b, off, none⟩) V.length c := hd 4 40 (by kernel_rfl)
            have e41 : ev (.tmp 41) = .int .i64 k := hd 5 41 (by kernel_rfl)
            clear hfr hd
            show OpOk _ _ ev xw fun v w' => Bl xw w' ∧ (∃ sp, v = .slice sp (V.length - k) (c - k) ∧ (∀ bb oo : Nat, (some ⟨b, off, none⟩) = some (⟨bb, oo, none⟩ : Addr) → k < V.length → sp = some (⟨bb, oo + k * 2, none⟩ : Addr)))
            refine opOk_hid (fun Rp HR => ?_)
            unfold OpOk
            go_simp
            rw [HR.out]
            refine ⟨hr, _, rfl, fun b off hA hq => ?_⟩
            first | (exfalso; omega) | (simp only [Option.some.injEq, Addr.mk.injEq] at hA; rw [hA.1, hA.2.1, if_neg (by omega)]) | (rw [if_neg (by omega), hA]; simp [Addr.add])
          exact steps_nil
        · intro vs W5 hb5 hk
          obtain ⟨dp, k39, z39⟩ : ∃ dp, vs 3 = .slice dp (V.length - k) (V.length - k) ∧ (k < V.length → dp = some ⟨w2.heap.size, (k + 1) * 2, none⟩) := hk 3 (by omega)
          obtain ⟨sp, k42, z42⟩ : ∃ sp, vs 6 = .slice sp (V.length - k) (c - k) ∧ (∀ bb oo : Nat, (some ⟨b, off, none⟩) = some (⟨bb, oo, none⟩ : Addr) → k < V.length → sp = some (⟨bb, oo + k * 2, none⟩ : Addr)) := hk 6 (by omega)
          clear hk
          simp only [List.take_succ_cons, List.take_zero, List.drop_succ_cons, List.drop_zero, putAll, Act.put, List.setIfInBounds_toArray, List.set_cons_zero, List.set_cons_succ, k39, k42, Nat.reduceAdd, Nat.reduceSub]
          clear k39 k42
          have R5 := R3.below hb5
          have hs5 := hs3.grow hb5
          have bW5 := bW3.trans (Below.mono hb5 bW3.size)
          refine wpList_copy_many rfl (.tmp 39) (.tmp 42) 22 22 rfl 25 2 (by omega) Try.underlying22 ve_size dp sp _ _ _ _ rfl rfl w2.heap.size ((k + 1) * 2) _ 25 R5 ((V.drop k).flatMap Ve.cells) (by have := flat_len Ve.cells 2 (fun _ => rfl) (V.drop k); rw [List.length_drop] at this; omega) (Nat.le_refl _) (fun hp => ?hp) ?hf (flat_one _) w.heap.size w bW5 hgw ?_
          case hp =>
            obtain ⟨b, off, hA, hB, hc⟩ := hs5 (by omega)
            refine ⟨z39 (by omega), _, z42 b off hA (by omega), vs_src ⟨b, off, hA, hB, hc⟩ hA k⟩
          case hf => rw [HL2.out]; rw [flat_len Ve.cells 2 (fun _ => rfl), List.length_drop]; omega
          intro w6 R6 b6 _
          go_wp2
          go_ret
          refine ⟨b6, _, rfl, hgw, ?_⟩
          rw [HF.out] at R6
          exact R6
    · have z : decide ((k : Int) < (V.length : Int)) = false := by simpa using hlt
      have hkn : k = V.length := by omega
      subst hkn
      have HX : Hid (atF v.id V = V.length) := Lib.hid (by rw [HV.out, List.drop_eq_nil_of_le (by omega), atF]; omega)
      go_wp2_with fail
      have o0 := Br.laterN 0 rfl
      have o1 := Br.laterN 1 rfl
      refine wp_region_grow (by kernel_rfl) (by kernel_rfl) ?_
      repeat' (first
          | go_big_quiet_skip
          | (go_big_quiet_want; first
              | (go_big_quiet_op; go_big_quiet_on)
              | (refine quiet_det ?_; apply Exists.intro; refine ⟨fun w' hC => ?_, ?_⟩; (go_simp <;> (first | rfl | exact ⟨rfl, rfl⟩)); apply Exists.intro; refine ⟨?_, ?_⟩; (go_simp <;> (first | rfl | exact ⟨rfl, rfl⟩)); go_big_quiet_on)
              | (show Oper.quiet _ { dst := _, op := .call { callee := .value _, args := _, argTypes := _ }, type := _, pos := _, after := _, guard := _ } _ _ _; refine quiet_call ?_; apply Exists.intro; apply Exists.intro; refine ⟨fun w' hC => ?_, ?_⟩; (go_simp <;> (first | rfl | exact ⟨rfl, rfl⟩)); apply Exists.intro; refine ⟨fun w' hC => ?_, ?_⟩; (first

                  | fail); apply Exists.intro; refine ⟨?_, ?_⟩; (go_simp <;> (first | rfl | exact ⟨rfl, rfl⟩)); go_big_quiet_on)))
      all_goals refine wpQuiet_nil ?_
      intro w2 hb2
      clear o0 o1
      have Bq := Br.below hb2
      have hsq := hsr.grow hb2
      have hbq : Below w.heap.size w w2 := bX.trans ((hbr.trans (hb2.mono hbr.size)).mono bX.size)
      have hwl : IntKind.i64.wrap ((V.length : Int) + 1) = (V.length : Int) + 1 := by rw [IntKind.wrap_i64]; omega
      obtain ⟨ZA, hZA, hmk⟩ := make_ve V.length hl
      clear hbr hb2 Br hsr HV
      have hsz := Bq.lt
      have R0 : Blk (w2.alloc (.cells ZA 25)) w2.heap.size 25 ZA.toList.toArray := by rw [Array.toArray_toList]; exact Blk.new
      have Bq2 := Bq.alloc (.cells ZA 25)
      have bA := lat_alloc (Below.refl w2.heap.size w2) (.cells ZA 25)
      have hsA := hsq.below bA
      have hbA := hbq.trans (bA.mono hbq.size)
      have lt1 : ((V.take V.length).flatMap Ve.cells).length = V.length * 2 := by rw [flat_len Ve.cells 2 (fun _ => rfl), List.length_take]; omega
      have hfit1 : 0 + ((V.take V.length).flatMap Ve.cells).length ≤ ZA.toList.length := by rw [lt1, Array.length_toList (xs := ZA)]; omega
      go_wp2_with (show wpList _ _ _ (Oper.mk (some 31) _ _ _ _ _ :: _) _ _; refine wpList_copy_many rfl (.tmp 27) (.tmp 30) 22 22 rfl 25 2 (by omega) Try.underlying22 ve_size _ _ _ _ _ _ rfl rfl w2.heap.size 0 ZA.toList 25 R0 ((V.take V.length).flatMap Ve.cells) lt1 (by omega) (fun hp => ?hp) hfit1 (flat_one _) w.heap.size w hbA (by omega) ?_; (case hp => (have h0 := hsA (by omega); obtain ⟨b', off', hA', hB', hc'⟩ := h0; refine ⟨rfl, ?_⟩; exact ⟨_, hA', take_src ⟨b', off', hA', hB', hc'⟩ hA' V.length⟩)); intro w3 R1 b3 g3; have hs3 := hsA.grownN (Nat.le_refl _) (by rw [heap_size]; omega) g3; have B3 := Bq2.grown g3 (by intro e; injection e with e; omega); have p0 := B3.at 0 rfl; have p1 := B3.at 1 rfl; have lsp : (splice ZA.toList 0 ((V.take V.length).flatMap Ve.cells)).length = (V.length + 1) * 2 := (by rw [length_splice _ _ _ hfit1, Array.length_toList (xs := ZA)]; exact hZA); have hz0 := cell_ex (L := splice ZA.toList 0 ((V.take V.length).flatMap Ve.cells)) R1 (i := V.length * 2) (by rw [lsp]; omega); have hz1 := cell_ex (L := splice ZA.toList 0 ((V.take V.length).flatMap Ve.cells)) R1 (i := V.length * 2 + 1) (by rw [lsp]; omega); have f0 := R1.frozen (V.length * 2); have f1 := R1.frozen (V.length * 2 + 1))
      have hgw : w.heap.size ≤ w2.heap.size := Nat.le_of_lt hsz
      have HF : Hid (splice (((splice ZA.toList 0 ((V.take V.length).flatMap Ve.cells)).set (V.length * 2) (.int .i64 v.id)).set (V.length * 2 + 1) (.int .i64 v.cl)) ((V.length + 1) * 2) ((V.drop V.length).flatMap Ve.cells) = (insV v V).flatMap Ve.cells) := Lib.hid (by unfold insV; rw [HX.out]; exact put_list (Nat.le_refl _) (by rw [Array.length_toList (xs := ZA)]; exact hZA))
      have hll : (((splice ZA.toList 0 ((V.take V.length).flatMap Ve.cells)).set (V.length * 2) (.int .i64 v.id)).set (V.length * 2 + 1) (.int .i64 v.cl)).length = (V.length + 1) * 2 := by rw [List.length_set, List.length_set]; exact lsp
      have R3 : Blk ((w3.setCell ⟨w2.heap.size, V.length * 2, none⟩ (.int .i64 v.id)).setCell ⟨w2.heap.size, V.length * 2 + 1, none⟩ (.int .i64 v.cl)) w2.heap.size 25 (((splice ZA.toList 0 ((V.take V.length).flatMap Ve.cells)).set (V.length * 2) (.int .i64 v.id)).set (V.length * 2 + 1) (.int .i64 v.cl)).toArray := by
        have h := (R1.set_ (V.length * 2) (.int .i64 v.id)).set_ (V.length * 2 + 1) (.int .i64 v.cl)
        rw [List.setIfInBounds_toArray, List.setIfInBounds_toArray] at h
        exact h
      have hs3 := hsA.grownN (Nat.le_refl _) (by rw [heap_size]; omega) ((g3.trans (grownBy_set w3 w2.heap.size (V.length * 2) (.int .i64 v.id))).trans (grownBy_set _ w2.heap.size (V.length * 2 + 1) (.int .i64 v.cl)))
      have bW3 := (b3.setCell (p := ⟨w2.heap.size, V.length * 2, none⟩) hgw (.int .i64 v.id)).setCell (p := ⟨w2.heap.size, V.length * 2 + 1, none⟩) hgw (.int .i64 v.cl)
      clear hz0 hz1 f0 f1 p0 p1 R1 b3 g3 lsp lt1 hmk hbA hsA bA Bq2 R0 B3
      generalize (w3.setCell ⟨w2.heap.size, V.length * 2, none⟩ (.int .i64 v.id)).setCell ⟨w2.heap.size, V.length * 2 + 1, none⟩ (.int .i64 v.cl) = W3 at *
      generalize ((splice ZA.toList 0 ((V.take V.length).flatMap Ve.cells)).set (V.length * 2) (.int .i64 v.id)).set (V.length * 2 + 1) (.int .i64 v.cl) = L2 at *
      have HL2 := Lib.hid hll
      clear hll
      refine wp_region_pre (R := Bl) 7 45 [fun v _ => v = (.slice (some ⟨w2.heap.size, 0, none⟩) (V.length + 1) (V.length + 1)), fun v _ => v = .int .i64 V.length, fun v _ => v = .int .i64 ((V.length : Int) + 1), fun v w => ∃ dp, v = .slice dp 0 0 ∧ (V.length < V.length → dp = some ⟨w2.heap.size, (V.length + 1) * 2, none⟩), fun v _ => v = .slice A V.length c, fun v _ => v = .int .i64 V.length, fun v w => ∃ sp, v = .slice sp 0 (c - V.length) ∧ (∀ bb oo : Nat, A = some (⟨bb, oo, none⟩ : Addr) → V.length < V.length → sp = some (⟨bb, oo + V.length * 2, none⟩ : Addr))] (Bl.trans) (Bl.drew) (by kernel_rfl) (fun _ _ d _ _ h => by cases d <;> exact h) rfl (by kernel_rfl) (stay_cons (stays_v _) (stay_cons (stays_v _) (stay_cons (stays_v _) (stay_cons (fun v _ _ h _ => h) (stay_cons (stays_v _) (stay_cons (stays_v _) (stay_cons (fun v _ _ h _ => h) (stay_nil)))))))) ?_ ?_
      · simp only [List.take_succ_cons, List.take_zero]
        refine steps_cons (Bl.refl) (fun ev xw hb hc hf hfr hd hr => ?_) ?_
        · have e6 : ev (.tmp 6) = (.slice (some ⟨w2.heap.size, 0, none⟩) (V.length + 1) (V.length + 1)) := hfr 6 (by kernel_rfl)
          clear hfr hd
          show OpOk _ _ ev xw fun v w' => Bl xw w' ∧ (v = (.slice (some ⟨w2.heap.size, 0, none⟩) (V.length + 1) (V.length + 1)))
          refine opOk_hid (fun Rp HR => ?_)
          unfold OpOk
          go_simp
          rw [HR.out]
          exact ⟨hr, rfl⟩
        refine steps_cons (Bl.refl) (fun ev xw hb hc hf hfr hd hr => ?_) ?_
        · have e5 : ev (.tmp 5) = .int .i64 V.length := hfr 5 (by kernel_rfl)
          clear hfr hd
          show OpOk _ _ ev xw fun v w' => Bl xw w' ∧ (v = .int .i64 V.length)
          refine opOk_hid (fun Rp HR => ?_)
          unfold OpOk
          go_simp
          rw [HR.out]
          exact ⟨hr, rfl⟩
        refine steps_cons (Bl.refl) (fun ev xw hb hc hf hfr hd hr => ?_) ?_
        · have e37 : ev (.tmp 37) = .int .i64 V.length := hd 1 37 (by kernel_rfl)
          clear hfr hd
          have hwq : IntKind.i64.wrap ((V.length : Int) + 1) = (V.length : Int) + 1 := by rw [IntKind.wrap_i64]; omega
          show OpOk _ _ ev xw fun v w' => Bl xw w' ∧ (v = .int .i64 ((V.length : Int) + 1))
          refine opOk_hid (fun Rp HR => ?_)
          unfold OpOk
          go_simp
          rw [HR.out]
          exact ⟨hr, rfl⟩
        refine steps_cons (Bl.refl) (fun ev xw hb hc hf hfr hd hr => ?_) ?_
        · have e36 : ev (.tmp 36) = (.slice (some ⟨w2.heap.size, 0, none⟩) (V.length + 1) (V.length + 1)) := hd 0 36 (by kernel_rfl)
          have e38 : ev (.tmp 38) = .int .i64 ((V.length : Int) + 1) := hd 2 38 (by kernel_rfl)
          clear hfr hd
          show OpOk _ _ ev xw fun v w' => Bl xw w' ∧ (∃ dp, v = .slice dp 0 0 ∧ (V.length < V.length → dp = some ⟨w2.heap.size, (V.length + 1) * 2, none⟩))
          refine opOk_hid (fun Rp HR => ?_)
          unfold OpOk
          go_simp
          rw [HR.out]
          refine ⟨hr, _, rfl, fun hq => ?_⟩
          first | (exfalso; omega) | rw [if_neg (by omega)]
        refine steps_cons (Bl.refl) (fun ev xw hb hc hf hfr hd hr => ?_) ?_
        · have e0 : ev (.tmp 0) = .slice A V.length c := hfr 0 (by kernel_rfl)
          clear hfr hd
          show OpOk _ _ ev xw fun v w' => Bl xw w' ∧ (v = .slice A V.length c)
          refine opOk_hid (fun Rp HR => ?_)
          unfold OpOk
          go_simp
          rw [HR.out]
          exact ⟨hr, rfl⟩
        refine steps_cons (Bl.refl) (fun ev xw hb hc hf hfr hd hr => ?_) ?_
        · have e5 : ev (.tmp 5) = .int .i64 V.length := hfr 5 (by kernel_rfl)
          clear hfr hd
          show OpOk _ _ ev xw fun v w' => Bl xw w' ∧ (v = .int .i64 V.length)
          refine opOk_hid (fun Rp HR => ?_)
          unfold OpOk
          go_simp
          rw [HR.out]
          exact ⟨hr, rfl⟩
        refine steps_cons (Bl.refl) (fun ev xw hb hc hf hfr hd hr => ?_) ?_
        · have e40 : ev (.tmp 40) = .slice A V.length c := hd 4 40 (by kernel_rfl)
          have e41 : ev (.tmp 41) = .int .i64 V.length := hd 5 41 (by kernel_rfl)
          clear hfr hd
          show OpOk _ _ ev xw fun v w' => Bl xw w' ∧ (∃ sp, v = .slice sp 0 (c - V.length) ∧ (∀ bb oo : Nat, A = some (⟨bb, oo, none⟩ : Addr) → V.length < V.length → sp = some (⟨bb, oo + V.length * 2, none⟩ : Addr)))
          refine opOk_hid (fun Rp HR => ?_)
          unfold OpOk
          go_simp
          rw [HR.out]
          refine ⟨hr, _, rfl, fun b off hA hq => ?_⟩
          first | (exfalso; omega) | (simp only [Option.some.injEq, Addr.mk.injEq] at hA; rw [hA.1, hA.2.1, if_neg (by omega)]) | (rw [if_neg (by omega), hA]; simp [Addr.add])
        exact steps_nil
      · intro vs W5 hb5 hk
        obtain ⟨dp, k39, z39⟩ : ∃ dp, vs 3 = .slice dp 0 0 ∧ (V.length < V.length → dp = some ⟨w2.heap.size, (V.length + 1) * 2, none⟩) := hk 3 (by omega)
        obtain ⟨sp, k42, z42⟩ : ∃ sp, vs 6 = .slice sp 0 (c - V.length) ∧ (∀ bb oo : Nat, A = some (⟨bb, oo, none⟩ : Addr) → V.length < V.length → sp = some (⟨bb, oo + V.length * 2, none⟩ : Addr)) := hk 6 (by omega)
        clear hk
        simp only [List.take_succ_cons, List.take_zero, List.drop_succ_cons, List.drop_zero, putAll, Act.put, List.setIfInBounds_toArray, List.set_cons_zero, List.set_cons_succ, k39, k42, Nat.reduceAdd, Nat.reduceSub]
        clear k39 k42
        have R5 := R3.below hb5
        have hs5 := hs3.grow hb5
        have bW5 := bW3.trans (Below.mono hb5 bW3.size)
        refine wpList_copy_many rfl (.tmp 39) (.tmp 42) 22 22 rfl 25 2 (by omega) Try.underlying22 ve_size dp sp _ _ _ _ rfl rfl w2.heap.size ((V.length + 1) * 2) _ 25 R5 ((V.drop V.length).flatMap Ve.cells) (by have := flat_len Ve.cells 2 (fun _ => rfl) (V.drop V.length); rw [List.length_drop] at this; omega) (Nat.le_refl _) (fun hp => ?hp) ?hf (flat_one _) w.heap.size w bW5 hgw ?_
        case hp =>
          obtain ⟨b, off, hA, hB, hc⟩ := hs5 (by omega)
          refine ⟨z39 (by omega), _, z42 b off hA (by omega), vs_src ⟨b, off, hA, hB, hc⟩ hA V.length⟩
        case hf => rw [HL2.out]; rw [flat_len Ve.cells 2 (fun _ => rfl), List.length_drop]; omega
        intro w6 R6 b6 _
        go_wp2
        go_ret
        refine ⟨b6, _, rfl, hgw, ?_⟩
        rw [HF.out] at R6
        exact R6
end Go.Proofs.Ytgafianhlobcfaa
