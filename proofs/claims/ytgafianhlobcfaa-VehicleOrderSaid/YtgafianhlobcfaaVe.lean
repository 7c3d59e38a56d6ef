/-
  Lists of vehicles: which are valid, how many have a class, where one is. Conditions: none but that lists are in memory.
-/
import Derived.Test.YtgafianhlobcfaaAs
import Derived.Test.YtgafianhlobcfaaBl
import Derived.Test.YtgafianhlobcfaaDk
namespace Go.Proofs.Ytgafianhlobcfaa
open Go.ChangeShapes Go.WideShapes Go.RowKit
set_option linter.unusedVariables false

theorem ret_i {k : IntKind} {a b : Int} (h : a = b) : Ending.returned (.int k a) = .returned (.int k b) := by rw [h]
theorem ret_b {a b : Bool} (h : a = b) : Ending.returned (.bool a) = .returned (.bool b) := by rw [h]
theorem Ints.sub {k : IntKind} {w : World} {B : Nat} {A : Option Addr} {l : List Int} (h : Ints k w B A l) {i : Nat} (hi : i < l.length) : ∃ b off, A = some ⟨b, off, none⟩ ∧ b < B ∧ w.cell? ⟨b, off + i, none⟩ = some (.int k (at_ l i)) := by
  obtain ⟨b, off, hA, hB, hc⟩ := h (by omega)
  exact ⟨b, off, hA, hB, hc i hi⟩
theorem Blk.laterN {W : World} {g : Nat} {t : TypeId} {cs : Array Value} (h : Blk W g t cs) (i : Nat) {v : Value} (hv : cs[i]? = some v) : ∀ w', Below W.heap.size W w' → w'.cell? ⟨g, i, none⟩ = some v := fun w' hb => ((h.below hb).cell i).trans hv
structure Ve where
  id : Int
  cl : Int
def veAt (V : List Ve) (i : Nat) : Ve := V.getD i ⟨0, 0⟩
def Ve.cells (x : Ve) : List Value := [.int .i64 x.id, .int .i64 x.cl]
theorem veAt_get {V : List Ve} {i : Nat} (h : i < V.length) : V[i]? = some (veAt V i) := by simp [veAt, h]
theorem veAt_mem {V : List Ve} {i : Nat} (h : i < V.length) : veAt V i ∈ V := by
  have : veAt V i = V[i] := by simp [veAt, h]
  rw [this]; exact List.getElem_mem h
theorem drop_ve {V : List Ve} {i : Nat} (h : i < V.length) : V.drop i = veAt V i :: V.drop (i + 1) := by
  rw [List.drop_eq_getElem_cons h]; simp [veAt, h]
/-- All numbers of the list are ints. -/
def VeW (V : List Ve) : Prop := ∀ x ∈ V, (-9223372036854775808 ≤ x.id ∧ x.id ≤ 9223372036854775807) ∧ -9223372036854775808 ≤ x.cl ∧ x.cl ≤ 9223372036854775807
def VeHere (w : World) (b o : Nat) (x : Ve) : Prop := w.cell? ⟨b, o, none⟩ = some (.int .i64 x.id) ∧ w.cell? ⟨b, o + 1, none⟩ = some (.int .i64 x.cl)
/-- A slice of vehicles, below block B. -/
def Vs (w : World) (B : Nat) (A : Option Addr) (V : List Ve) : Prop :=
  0 < V.length → ∃ b off, A = some ⟨b, off, none⟩ ∧ b < B ∧ ∀ i, i < V.length → VeHere w b (off + i * 2) (veAt V i)
theorem VeHere.below {w w' : World} {B b o : Nat} {x : Ve} (h : VeHere w b o x) (hb : Below B w w') (hB : b < B) : VeHere w' b o x :=
  ⟨(hb.cell (p := ⟨b, o, none⟩) hB).trans h.1, (hb.cell (p := ⟨b, o + 1, none⟩) hB).trans h.2⟩
theorem VeHere.later {w : World} {b o : Nat} {x : Ve} (h : VeHere w b o x) (hB : b < w.heap.size) :
    (∀ w', Below w.heap.size w w' → w'.cell? ⟨b, o, none⟩ = some (.int .i64 x.id)) ∧ (∀ w', Below w.heap.size w w' → w'.cell? ⟨b, o + 1, none⟩ = some (.int .i64 x.cl)) :=
  ⟨fun _ hb => (h.below hb hB).1, fun _ hb => (h.below hb hB).2⟩
theorem Vs.grow {w w' : World} {A : Option Addr} {V : List Ve} (h : Vs w w.heap.size A V) (hb : Below w.heap.size w w') : Vs w' w'.heap.size A V := fun h0 => by
  obtain ⟨b, off, hA, hB, hc⟩ := h h0
  exact ⟨b, off, hA, Nat.lt_of_lt_of_le hB hb.size, fun i hi => (hc i hi).below hb hB⟩
theorem Vs.below {w w' : World} {B : Nat} {A : Option Addr} {V : List Ve} (h : Vs w B A V) (hb : Below B w w') : Vs w' B A V := fun h0 => by
  obtain ⟨b, off, hA, hB, hc⟩ := h h0
  exact ⟨b, off, hA, hB, fun i hi => (hc i hi).below hb hB⟩
theorem Vs.more {w : World} {B B' : Nat} {A : Option Addr} {V : List Ve} (h : Vs w B A V) (hB : B ≤ B') : Vs w B' A V := fun h0 => by
  obtain ⟨b, off, hA, hb, hc⟩ := h h0
  exact ⟨b, off, hA, by omega, hc⟩
theorem Vs.at {w : World} {B : Nat} {A : Option Addr} {V : List Ve} (h : Vs w B A V) {i : Nat} (hi : i < V.length) : ∃ b off, A = some ⟨b, off, none⟩ ∧ b < B ∧ VeHere w b (off + i * 2) (veAt V i) := by
  obtain ⟨b, off, hA, hB, hc⟩ := h (by omega)
  exact ⟨b, off, hA, hB, hc i hi⟩
theorem Vs.nil {w : World} {B : Nat} {A : Option Addr} : Vs w B A [] := fun h => absurd h (by simp)
theorem Vs.gr {g : Nat} {w w' : World} {A : Option Addr} {V : List Ve} (h : Vs w w.heap.size A V) (hg : Gr g w w') (hne : ∀ a, A = some a → a.block ≠ g) : Vs w' w'.heap.size A V := fun h0 => by
  obtain ⟨b, off, rfl, hB, hc⟩ := h h0
  have hb := hne _ rfl
  exact ⟨b, off, rfl, Nat.lt_of_lt_of_le hB hg.size, fun i hi => ⟨(hg.cell hB hb).trans (hc i hi).1, (hg.cell hB hb).trans (hc i hi).2⟩⟩

/-- Valid from a least number on. -/
def okB (m : Int) (x : Ve) : Bool := !(decide (x.id < m) || decide (x.id > 4294967295) || decide (x.cl < 0) || decide (x.cl > 3))
def validF : Int → List Ve → Bool
  | _, [] => true
  | m, x :: V => okB m x && validF (x.id + 1) V
def validB (V : List Ve) : Bool := validF 0 V && decide (V.length ≤ 8)
def cntF (c : Int) : List Ve → Int
  | [] => 0
  | x :: V => (if x.cl = c then 1 else 0) + cntF c V
def idxF (id : Int) : List Ve → Nat → Int
  | [], _ => -1
  | x :: V, k => if x.id = id then k else idxF id V (k + 1)
theorem cntF_bd (c : Int) : ∀ V : List Ve, 0 ≤ cntF c V ∧ cntF c V ≤ V.length
  | [] => by simp [cntF]
  | x :: V => by
    have := cntF_bd c V
    simp only [cntF, List.length_cons]
    split <;> omega
set_option maxHeartbeats 1000000 in
theorem valid_any (A : Option Addr) (c : Nat) (V : List Ve) (w : World) (hs : Vs w w.heap.size A V) (hw : VeW V) (hl : V.length ≤ 9223372036854775807) :
    Calls Try.prog 11 #[.slice A V.length c] w fun e w' => e = .returned (.bool (validB V)) ∧ Below w.heap.size w w' := by
  go_enter Try.func11, Try.ntmps11
  go_wp2
  go_loopw [3, 8] (fun m i wr => ∃ (k : Nat) (n : Int), k ≤ V.length ∧ i = .int .i64 k ∧ m = .int .i64 n ∧ 0 ≤ n ∧ n ≤ 4294967296 ∧ Below w.heap.size w wr ∧ Go.RowKit.Hid (validF 0 V = validF n (V.drop k))) (fun _ i _ => V.length - (intOf i).toNat)
  case atStart => exact ⟨0, 0, by omega, rfl, rfl, by omega, by omega, Below.refl _ _, Lib.hid rfl⟩
  case round =>
    obtain ⟨k, n, hk, rfl, rfl, n0, n1, hbr, HV⟩ := hrel
    by_cases hlt : k < V.length
    · have hlt' : (k : Int) < V.length := by omega
      obtain ⟨b, off, rfl, hB, h0, h1⟩ := (hs.grow hbr).at hlt
      have hxw := hw _ (veAt_mem hlt)
      have HD := Lib.hid (drop_ve hlt)
      generalize veAt V k = x at *
      have bX := lat_alloc (Below.refl wr.heap.size wr) (.cells #[.int .i64 x.id, .int .i64 x.cl] 25)
      have hbX := hbr.trans (bX.mono hbr.size)
      by_cases hok : okB n x = true
      · have hok' := hok
        simp only [okB, Bool.not_eq_true', Bool.or_eq_false_iff, decide_eq_false_iff_not] at hok'
        obtain ⟨⟨⟨q0, q1⟩, q2⟩, q3⟩ := hok'
        have z0 : decide (x.id < n) = false := by simpa using q0
        have z1 : decide (x.id > 4294967295) = false := by simpa using q1
        have z2 : decide (x.cl < 0) = false := by simpa using q2
        have z3 : decide (x.cl > 3) = false := by simpa using q3
        have HO := Lib.hid hok
        clear hok
        go_wp2
        go_roundw
        case rel => exact ⟨k + 1, x.id + 1, by omega, by go_num, rfl, by omega, by omega, hbX, Lib.hid (by rw [HV.out, HD.out, validF, HO.out, Bool.true_and])⟩
        case measure => simp [intOf]; omega
      · have hok' : okB n x = false := by simpa using hok
        have HO := Lib.hid hok'
        have hf : validB V = false := by unfold validB; rw [HV.out, HD.out, validF, HO.out]; rfl
        have HF := Lib.hid hf
        clear hf hok
        simp only [okB, Bool.not_eq_false', Bool.or_eq_true, decide_eq_true_eq] at hok'
        by_cases q0 : x.id < n
        · have z0 : decide (x.id < n) = true := by simpa using q0
          clear hok'
          go_wp2
          go_ret
          exact ⟨ret_b HF.out.symm, hbX⟩
        · by_cases q1 : x.id > 4294967295
          · clear hok'
            go_wp2
            go_ret
            exact ⟨ret_b HF.out.symm, hbX⟩
          · by_cases q2 : x.cl < 0
            · clear hok'
              go_wp2
              go_ret
              exact ⟨ret_b HF.out.symm, hbX⟩
            · have q3 : x.cl > 3 := by rcases hok' with ((h | h) | h) | h <;> omega
              clear hok'
              go_wp2
              go_ret
              exact ⟨ret_b HF.out.symm, hbX⟩
    · have hk' : V.drop k = [] := List.drop_eq_nil_of_le (by omega)
      have hv : validB V = decide (V.length ≤ 8) := by unfold validB; rw [HV.out, hk']; rfl
      have HVB := Lib.hid hv
      clear hv hk'
      go_wp2
      go_ret
      refine ⟨ret_b ?_, hbr⟩
      rw [HVB.out]
      simp only [decide_eq_decide]
      omega
set_option maxHeartbeats 1000000 in
theorem count_any (A : Option Addr) (c : Nat) (V : List Ve) (cl : Int) (w : World) (hs : Vs w w.heap.size A V) (hl : V.length ≤ 9223372036854775807) :
    Calls Try.prog 15 #[.slice A V.length c, .int .i64 cl] w fun e w' => e = .returned (.int .i64 (cntF cl V)) ∧ Below w.heap.size w w' := by
  go_enter Try.func15, Try.ntmps15
  go_wp2
  go_loopw [5, 10] (fun m i wr => ∃ (k : Nat) (n : Int), k ≤ V.length ∧ i = .int .i64 k ∧ m = .int .i64 n ∧ 0 ≤ n ∧ n ≤ k ∧ Below w.heap.size w wr ∧ Go.RowKit.Hid (cntF cl V = n + cntF cl (V.drop k))) (fun _ i _ => V.length - (intOf i).toNat)
  case atStart => exact ⟨0, 0, by omega, rfl, rfl, by omega, by omega, Below.refl _ _, Lib.hid (by simp)⟩
  case round =>
    obtain ⟨k, n, hk, rfl, rfl, n0, n1, hbr, HV⟩ := hrel
    by_cases hlt : k < V.length
    · have hlt' : (k : Int) < V.length := by omega
      obtain ⟨b, off, rfl, hB, h0, h1⟩ := (hs.grow hbr).at hlt
      have HD := Lib.hid (drop_ve hlt)
      generalize veAt V k = x at *
      have bX := lat_alloc (Below.refl wr.heap.size wr) (.cells #[.int .i64 x.id, .int .i64 x.cl] 25)
      have hbX := hbr.trans (bX.mono hbr.size)
      by_cases h : x.cl = cl
      · have z : (x.cl == cl) = true := by simpa using h
        have HH := Lib.hid h
        clear h
        go_wp2
        go_roundw
        case rel => exact ⟨k + 1, n + 1, by omega, by go_num, rfl, by omega, by omega, hbX, Lib.hid (by rw [HV.out, HD.out, cntF, if_pos HH.out]; omega)⟩
        case measure => simp [intOf]; omega
      · have z : (x.cl == cl) = false := by simpa using h
        have HH := Lib.hid h
        clear h
        go_wp2
        go_roundw
        case rel => exact ⟨k + 1, n, by omega, by go_num, rfl, by omega, by omega, hbX, Lib.hid (by rw [HV.out, HD.out, cntF, if_neg HH.out]; omega)⟩
        case measure => simp [intOf]; omega
    · have hk' : V.drop k = [] := List.drop_eq_nil_of_le (by omega)
      have hv : cntF cl V = n := by rw [HV.out, hk']; simp [cntF]
      have HVB := Lib.hid hv
      clear hv hk'
      go_wp2
      go_ret
      exact ⟨ret_i HVB.out.symm, hbr⟩
end Go.Proofs.Ytgafianhlobcfaa
