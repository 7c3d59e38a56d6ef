/-
  Valid of layer 6. Conditions: none.
-/
import Derived.Test.YtkpbkahmbbkcdaaVl
import Derived.Laws.BitsLemmas
import Derived.WalkMore
import Derived.Deep.LoopGhost
namespace Go.Proofs.Ytkpbkahmbbkcdaa
open Go.ChangeShapes Go.WideShapes Go.RowKit
set_option linter.unusedVariables false

/-- The rows are valid. -/
def Valid6 (l : List Int) : Prop := 1 ≤ l.length ∧ l.length ≤ 8 ∧ ∀ p : Nat, p < l.length → 0 ≤ at_ l p ∧ at_ l p < 2 ^ l.length ∧ hasB (at_ l p) p = false ∧ ∀ q : Nat, q < l.length → hasB (at_ l p) q = true → hasB (at_ l q) p = true
open Classical in
noncomputable def validB6 (l : List Int) : Bool := decide (Valid6 l)
open Classical in
theorem valid6_t {l : List Int} (h : Valid6 l) : validB6 l = true := by unfold validB6; exact decide_eq_true h
open Classical in
theorem valid6_f {l : List Int} (h : ¬ Valid6 l) : validB6 l = false := by unfold validB6; exact decide_eq_false h
theorem wrap_pow' {k : Nat} (hk : k ≤ 60) : wrap64 ((2 : Int) ^ k) = (2 : Int) ^ k := by rw [wrap_pow hk]; simp
theorem valid_any (A : Option Addr) (l : List Int) (c B : Nat) (w : World) (hs : Ints .i64 w B A l) : Calls Try.prog 60 #[.slice A l.length c] w fun e w' => e = .returned (.bool (validB6 l)) ∧ w = w' := by
  go_enter Try.func60, Try.ntmps60
  by_cases h0 : 1 ≤ l.length
  · by_cases h8 : l.length ≤ 8
    · have hw := Lib.hid (wrap_pow' (k := l.length) (by omega))
      go_wp2
      go_loop [16] (fun v => ∃ k : Nat, k ≤ l.length ∧ v = .int .i64 k ∧ ∀ p : Nat, p < k → 0 ≤ at_ l p ∧ at_ l p < 2 ^ l.length ∧ hasB (at_ l p) p = false ∧ ∀ q : Nat, q < l.length → hasB (at_ l p) q = true → hasB (at_ l q) p = true) (fun v => l.length - (intOf v).toNat)
      case atStart => exact ⟨0, by omega, rfl, fun p hp => by omega⟩
      case round =>
        obtain ⟨k, hk, rfl, hB⟩ := hrel
        by_cases hlt : k < l.length
        · obtain ⟨b, off, rfl, hbB, hc⟩ := hs (by omega)
          have hcell := hc k hlt
          by_cases g0 : at_ l k < 0
          · go_wp2
            go_ret
            exact ⟨by rw [valid6_f (fun h => by have := (h.2.2 k hlt).1; omega)]; rfl, rfl⟩
          · have hw' := hw.out
            by_cases g1 : at_ l k < 2 ^ l.length
            · have hge : (decide ((2 : Int) ^ l.length ≤ at_ l k)) = false := by simpa using g1
              go_wp2_with fail
              refine (has_any _ k (by omega) _).mono ?_
              by_cases g2 : hasB (at_ l k) k = true
              · rw [g2]; rintro e w' ⟨rfl, rfl⟩
                go_wp2
                go_ret
                exact ⟨by rw [valid6_f (fun h => by have := (h.2.2 k hlt).2.2.1; rw [g2] at this; cases this)]; rfl, rfl⟩
              · have G2 := Lib.hid (eq_false_of_ne_true g2)
                rw [eq_false_of_ne_true g2]; clear g2; rintro e w' ⟨rfl, rfl⟩
                go_wp2
                go_loop [37] (fun v => ∃ q : Nat, q ≤ l.length ∧ v = .int .i64 q ∧ ∀ j : Nat, j < q → hasB (at_ l k) j = true → hasB (at_ l j) k = true) (fun v => l.length - (intOf v).toNat)
                case atStart => exact ⟨0, by omega, rfl, fun j hj => by omega⟩
                case round =>
                  obtain ⟨q, hq, rfl, hC⟩ := hrel
                  by_cases hltq : q < l.length
                  · have hcellq := hc q hltq
                    have hnext : (hasB (at_ l k) q = true → hasB (at_ l q) k = true) → ∀ j : Nat, j < q + 1 → hasB (at_ l k) j = true → hasB (at_ l j) k = true := fun hf j hj => by
                      rcases Nat.lt_or_ge j q with h | h
                      · exact hC j h
                      · have : j = q := by omega
                        subst this; exact hf
                    go_wp2_with fail
                    refine (has_any _ q (by omega) _).mono ?_
                    by_cases g3 : hasB (at_ l k) q = true
                    · have G3 := Lib.hid g3
                      rw [g3]; clear g3; rintro e w' ⟨rfl, rfl⟩
                      go_wp2_with fail
                      refine (has_any _ k (by omega) _).mono ?_
                      by_cases g4 : hasB (at_ l q) k = true
                      · have G4 := Lib.hid g4
                        rw [g4]; clear g4; rintro e w' ⟨rfl, rfl⟩
                        go_wp2
                        go_round
                        case rel => exact ⟨q + 1, hltq, by go_num, hnext (fun _ => G4.out)⟩
                        case measure => simp [intOf]; omega
                      · have G4 := Lib.hid g4
                        rw [eq_false_of_ne_true g4]; clear g4; rintro e w' ⟨rfl, rfl⟩
                        go_wp2
                        go_ret
                        exact ⟨by rw [valid6_f (fun h => G4.out ((h.2.2 k hlt).2.2.2 q hltq G3.out))]; rfl, rfl⟩
                    · have G3 := Lib.hid g3
                      rw [eq_false_of_ne_true g3]; clear g3; rintro e w' ⟨rfl, rfl⟩
                      go_wp2
                      go_round
                      case rel => exact ⟨q + 1, hltq, by go_num, hnext (fun h => absurd h G3.out)⟩
                      case measure => simp [intOf]; omega
                  · go_wp2
                    go_round
                    case rel =>
                      refine ⟨k + 1, hlt, by go_num, fun p hp => ?_⟩
                      rcases Nat.lt_or_ge p k with h | h
                      · exact hB p h
                      · have : p = k := by omega
                        subst this
                        exact ⟨by omega, g1, G2.out, fun j hj => hC j (by omega)⟩
                    case measure => simp [intOf]; omega
            · have hge : (decide ((2 : Int) ^ l.length ≤ at_ l k)) = true := by simpa using g1
              go_wp2
              go_ret
              exact ⟨by rw [valid6_f (fun h => absurd (h.2.2 k hlt).2.1 (by omega))]; rfl, rfl⟩
        · go_wp2
          go_ret
          exact ⟨by rw [valid6_t ⟨h0, h8, fun p hp => hB p (by omega)⟩]; rfl, rfl⟩
    · go_wp2
      go_ret
      exact ⟨by rw [valid6_f (fun h => h8 h.2.1)]; rfl, rfl⟩
  · go_wp2
    go_ret
    exact ⟨by rw [valid6_f (fun h => h0 h.1)]; rfl, rfl⟩
end Go.Proofs.Ytkpbkahmbbkcdaa
namespace Go.Proofs.Ytkpbkahmbbkcdaa
open Go.ChangeShapes Go.WideShapes Go.RowKit
set_option linter.unusedVariables false

/-- A number from a to b. -/
def inR (n a b : Int) : Bool := decide (a ≤ n) && decide (n ≤ b)
def placeB (p : Ph) : Bool := inR p.ri 0 1 && inR p.gr 0 3
def timB (p : Ph) : Bool := inR p.mx 1 60 && (inR p.mn 1 p.mx && (inR p.yl 1 60 && (inR p.rd 0 60 && (inR p.wk 0 60 && (inR p.cl 0 60 && (decide (p.wk + p.cl ≤ p.mx) && decide (p.wk = 0 ↔ p.cl = 0)))))))
structure JunV (P : List Ph) (C : List Int) (st : Int) : Prop where
  n : 1 ≤ P.length ∧ P.length ≤ 8
  c : C.length = P.length
  v : Valid6 C
  st : 0 ≤ st ∧ st ≤ 60
  ph : ∀ i, i < P.length → placeB (phAt P i) = true ∧ timB (phAt P i) = true
  ap : ∀ p, p < P.length → ∀ q, q < p → needB P p q = true → hasB (at_ C p) q = true
  de : ∀ g : Nat, (g : Int) < groupsI P P.length → ∃ i, i < P.length ∧ (phAt P i).gr = g
open Classical in
noncomputable def junB (P : List Ph) (C : List Int) (st : Int) : Bool := decide (JunV P C st)
open Classical in
theorem jun_t {P : List Ph} {C : List Int} {st : Int} (h : JunV P C st) : junB P C st = true := by unfold junB; exact decide_eq_true h
open Classical in
theorem jun_f {P : List Ph} {C : List Int} {st : Int} (h : ¬ JunV P C st) : junB P C st = false := by unfold junB; exact decide_eq_false h
open Classical in
theorem jun_iff {P : List Ph} {C : List Int} {st : Int} : junB P C st = true ↔ JunV P C st := by unfold junB; exact decide_eq_true_iff
theorem ph_ok {p : Ph} (h : PhOk p) (h0 : 0 ≤ p.ri ∧ p.ri ≤ 1 ∧ 0 ≤ p.gr ∧ p.gr ≤ 2) : placeB p = true ∧ timB p = true := by
  have h1 := h.mn; have h2 := h.yl; have h3 := h.rd; have h4 := h.wk; have h5 := h.mx
  simp only [placeB, timB, inR, Bool.and_eq_true, decide_eq_true_eq]
  refine ⟨⟨⟨?_, ?_⟩, ?_, ?_⟩, ⟨?_, ?_⟩, ⟨?_, ?_⟩, ⟨?_, ?_⟩, ⟨?_, ?_⟩, ⟨?_, ?_⟩, ⟨?_, ?_⟩, ?_, ?_⟩ <;> omega
/-- Rows that come from bits that are symmetric. -/
theorem jun_of {q : Nat} {st : Int} {ex : Bool} {P : List Ph} {C : List Int} {f : Nat → Nat → Bool} (h : JunOk q st ex P) (hC : C.length = P.length) (hr : ∀ i, i < P.length → 0 ≤ at_ C i ∧ at_ C i < 2 ^ P.length)
    (hb : ∀ i, i < P.length → ∀ k, k < P.length → hasB (at_ C i) k = f i k) (hs : ∀ i k, f i k = f k i) (h0 : ∀ i, f i i = false) :
    JunV P C st ↔ ∀ p, p < P.length → ∀ q, q < p → needB P p q = true → f p q = true := by
  have hq := shapeL_len q
  have hl := h.len
  constructor
  · intro hv p hp q hq hn
    rw [← hb p hp q (by omega)]
    exact hv.ap p hp q hq hn
  · intro hf
    refine ⟨by omega, hC, ⟨by omega, by omega, fun p hp => ?_⟩, by have := h.st; omega, fun i hi => ?_, fun p hp k hk hn => by rw [hb p hp k (by omega)]; exact hf p hp k hk hn, fun g hg => ?_⟩
    · rw [hC] at hp ⊢
      refine ⟨(hr p hp).1, (hr p hp).2, by rw [hb p hp p hp, h0], fun k hk hh => ?_⟩
      rw [hb p hp k hk] at hh
      rw [hb k hk p hp, hs]; exact hh
    · refine ph_ok (h.ok _ (phAt_mem hi)) ?_
      rw [(h.sh i hi).1, (h.sh i hi).2]; exact sh_bd q i
    · rw [groups_sh h _ (Nat.le_refl _), hl] at hg
      have hd := sh_dense q
      have hg4 : g < 4 := by omega
      have := hd.1
      unfold shDense at this
      rw [List.all_eq_true] at this
      have := this g (List.mem_range.2 hg4)
      rw [decide_eq_true hg, Bool.not_true, Bool.false_or, List.any_eq_true] at this
      obtain ⟨i, hi, he⟩ := this
      have hi := List.mem_range.1 hi
      exact ⟨i, by omega, by rw [(h.sh i (by omega)).2]; exact of_decide_eq_true he⟩
theorem jun_drawn {q : Nat} {st : Int} {ex : Bool} {P : List Ph} (h : JunOk q st ex P) : JunV P (rowsL P ex) st :=
  (jun_of h (rows_len P ex) (fun i hi => by
    rw [rows_at P ex hi]
    have := rowV_lt P ex i P.length
    have e : ((2 ^ P.length : Nat) : Int) = (2 : Int) ^ P.length := by simp
    rw [← e]; omega) (fun i hi k hk => rows_bit P ex hi hk) (conf_sym P ex) (conf_self P ex)).2 fun p hp k hk hn => conf_need (by omega) hn
end Go.Proofs.Ytkpbkahmbbkcdaa
namespace Go.Proofs.Ytkpbkahmbbkcdaa
open Go.ChangeShapes Go.WideShapes Go.RowKit
set_option linter.unusedVariables false

theorem within_any (n a b : Int) (w : World) : Calls Try.prog 59 #[.int .i64 n, .int .i64 a, .int .i64 b] w fun e w' => e = .returned (.bool (inR n a b)) ∧ w = w' := by
  by_cases h : a ≤ n
  · go_enter Try.func59, Try.ntmps59
    go_wp2
    go_ret
    exact ⟨ret_b (by unfold inR; rw [decide_eq_true h, Bool.true_and]), rfl⟩
  · go_enter Try.func59, Try.ntmps59
    go_wp2
    go_ret
    exact ⟨ret_b (by unfold inR; rw [decide_eq_false (by omega : ¬ a ≤ n), Bool.false_and]), rfl⟩
theorem within_c {n a b : Int} {r : Bool} (h : inR n a b = r) (w : World) : Calls Try.prog 59 #[.int .i64 n, .int .i64 a, .int .i64 b] w fun e w' => e = .returned (.bool r) ∧ w = w' := by
  have := within_any n a b w
  rw [h] at this
  exact this
theorem place_any (p : Ph) (w : World) : Calls Try.prog 61 #[.agg #[.int .i64 p.ri, .int .i64 p.gr, .int .i64 p.mn, .int .i64 p.mx, .int .i64 p.yl, .int .i64 p.rd, .int .i64 p.wk, .int .i64 p.cl]] w fun e w' => e = .returned (.bool (placeB p)) ∧ Below w.heap.size w w' := by
  have bW := (lat_alloc (Below.refl w.heap.size w) (.cells #[.int .i64 p.ri, .int .i64 p.gr, .int .i64 p.mn, .int .i64 p.mx, .int .i64 p.yl, .int .i64 p.rd, .int .i64 p.wk, .int .i64 p.cl] 51))
  have B := Blk.new (w := w) (t := 51) (cs := #[.int .i64 p.ri, .int .i64 p.gr, .int .i64 p.mn, .int .i64 p.mx, .int .i64 p.yl, .int .i64 p.rd, .int .i64 p.wk, .int .i64 p.cl])
  have j0 := B.at 0 rfl
  have j1 := B.at 1 rfl
  clear B
  rcases Bool.eq_false_or_eq_true (inR p.ri 0 1) with h1 | h1
  · have H1 := Lib.hid h1
    have H := Lib.hid (show placeB p = inR p.gr 0 3 by unfold placeB; rw [h1, Bool.true_and])
    clear h1
    go_enter Try.func61, Try.ntmps61
    go_wp2_with fail
    refine (within_c H1.out _).mono ?_
    rintro e w2 ⟨rfl, rfl⟩
    go_wp2_with fail
    refine (within_any _ _ _ _).mono ?_
    rintro e w2 ⟨rfl, rfl⟩
    go_wp2
    go_ret
    exact ⟨ret_b (by rw [H.out]), bW⟩
  · have H1 := Lib.hid h1
    have H := Lib.hid (show placeB p = false by unfold placeB; rw [h1, Bool.false_and])
    clear h1
    go_enter Try.func61, Try.ntmps61
    go_wp2_with fail
    refine (within_c H1.out _).mono ?_
    rintro e w2 ⟨rfl, rfl⟩
    go_wp2
    go_ret
    exact ⟨ret_b (by rw [H.out]), bW⟩
set_option maxHeartbeats 1000000 in
theorem timing_any (p : Ph) (w : World) : Calls Try.prog 62 #[.agg #[.int .i64 p.ri, .int .i64 p.gr, .int .i64 p.mn, .int .i64 p.mx, .int .i64 p.yl, .int .i64 p.rd, .int .i64 p.wk, .int .i64 p.cl]] w fun e w' => e = .returned (.bool (timB p)) ∧ Below w.heap.size w w' := by
  have bW := (lat_alloc (Below.refl w.heap.size w) (.cells #[.int .i64 p.ri, .int .i64 p.gr, .int .i64 p.mn, .int .i64 p.mx, .int .i64 p.yl, .int .i64 p.rd, .int .i64 p.wk, .int .i64 p.cl] 51))
  have B := Blk.new (w := w) (t := 51) (cs := #[.int .i64 p.ri, .int .i64 p.gr, .int .i64 p.mn, .int .i64 p.mx, .int .i64 p.yl, .int .i64 p.rd, .int .i64 p.wk, .int .i64 p.cl])
  have j2 := B.at 2 rfl
  have j3 := B.at 3 rfl
  have j4 := B.at 4 rfl
  have j5 := B.at 5 rfl
  have j6 := B.at 6 rfl
  have j7 := B.at 7 rfl
  clear B
  rcases Bool.eq_false_or_eq_true (inR p.mx 1 60) with h0 | h0
  rotate_left
  · have H0 := Lib.hid h0
    have HF := Lib.hid (show timB p = false by unfold timB; rw [h0, Bool.false_and])
    clear h0
    go_enter Try.func62, Try.ntmps62
    go_wp2_with fail
    refine (within_c H0.out _).mono ?_
    rintro e w2 ⟨rfl, rfl⟩
    go_wp2
    go_ret
    exact ⟨ret_b (by rw [HF.out]), bW⟩
  rcases Bool.eq_false_or_eq_true (inR p.mn 1 p.mx) with h1 | h1
  rotate_left
  · have H0 := Lib.hid h0
    have H1 := Lib.hid h1
    have HF := Lib.hid (show timB p = false by unfold timB; rw [h0, Bool.true_and]; rw [h1, Bool.false_and])
    clear h0 h1
    go_enter Try.func62, Try.ntmps62
    go_wp2_with fail
    refine (within_c H0.out _).mono ?_
    rintro e w2 ⟨rfl, rfl⟩
    go_wp2_with fail
    refine (within_c H1.out _).mono ?_
    rintro e w2 ⟨rfl, rfl⟩
    go_wp2
    go_ret
    exact ⟨ret_b (by rw [HF.out]), bW⟩
  rcases Bool.eq_false_or_eq_true (inR p.yl 1 60) with h2 | h2
  rotate_left
  · have H0 := Lib.hid h0
    have H1 := Lib.hid h1
    have H2 := Lib.hid h2
    have HF := Lib.hid (show timB p = false by unfold timB; rw [h0, Bool.true_and]; rw [h1, Bool.true_and]; rw [h2, Bool.false_and])
    clear h0 h1 h2
    go_enter Try.func62, Try.ntmps62
    go_wp2_with fail
    refine (within_c H0.out _).mono ?_
    rintro e w2 ⟨rfl, rfl⟩
    go_wp2_with fail
    refine (within_c H1.out _).mono ?_
    rintro e w2 ⟨rfl, rfl⟩
    go_wp2_with fail
    refine (within_c H2.out _).mono ?_
    rintro e w2 ⟨rfl, rfl⟩
    go_wp2
    go_ret
    exact ⟨ret_b (by rw [HF.out]), bW⟩
  rcases Bool.eq_false_or_eq_true (inR p.rd 0 60) with h3 | h3
  rotate_left
  · have H0 := Lib.hid h0
    have H1 := Lib.hid h1
    have H2 := Lib.hid h2
    have H3 := Lib.hid h3
    have HF := Lib.hid (show timB p = false by unfold timB; rw [h0, Bool.true_and]; rw [h1, Bool.true_and]; rw [h2, Bool.true_and]; rw [h3, Bool.false_and])
    clear h0 h1 h2 h3
    go_enter Try.func62, Try.ntmps62
    go_wp2_with fail
    refine (within_c H0.out _).mono ?_
    rintro e w2 ⟨rfl, rfl⟩
    go_wp2_with fail
    refine (within_c H1.out _).mono ?_
    rintro e w2 ⟨rfl, rfl⟩
    go_wp2_with fail
    refine (within_c H2.out _).mono ?_
    rintro e w2 ⟨rfl, rfl⟩
    go_wp2_with fail
    refine (within_c H3.out _).mono ?_
    rintro e w2 ⟨rfl, rfl⟩
    go_wp2
    go_ret
    exact ⟨ret_b (by rw [HF.out]), bW⟩
  rcases Bool.eq_false_or_eq_true (inR p.wk 0 60) with h4 | h4
  rotate_left
  · have H0 := Lib.hid h0
    have H1 := Lib.hid h1
    have H2 := Lib.hid h2
    have H3 := Lib.hid h3
    have H4 := Lib.hid h4
    have HF := Lib.hid (show timB p = false by unfold timB; rw [h0, Bool.true_and]; rw [h1, Bool.true_and]; rw [h2, Bool.true_and]; rw [h3, Bool.true_and]; rw [h4, Bool.false_and])
    clear h0 h1 h2 h3 h4
    go_enter Try.func62, Try.ntmps62
    go_wp2_with fail
    refine (within_c H0.out _).mono ?_
    rintro e w2 ⟨rfl, rfl⟩
    go_wp2_with fail
    refine (within_c H1.out _).mono ?_
    rintro e w2 ⟨rfl, rfl⟩
    go_wp2_with fail
    refine (within_c H2.out _).mono ?_
    rintro e w2 ⟨rfl, rfl⟩
    go_wp2_with fail
    refine (within_c H3.out _).mono ?_
    rintro e w2 ⟨rfl, rfl⟩
    go_wp2_with fail
    refine (within_c H4.out _).mono ?_
    rintro e w2 ⟨rfl, rfl⟩
    go_wp2
    go_ret
    exact ⟨ret_b (by rw [HF.out]), bW⟩
  rcases Bool.eq_false_or_eq_true (inR p.cl 0 60) with h5 | h5
  rotate_left
  · have H0 := Lib.hid h0
    have H1 := Lib.hid h1
    have H2 := Lib.hid h2
    have H3 := Lib.hid h3
    have H4 := Lib.hid h4
    have H5 := Lib.hid h5
    have HF := Lib.hid (show timB p = false by unfold timB; rw [h0, Bool.true_and]; rw [h1, Bool.true_and]; rw [h2, Bool.true_and]; rw [h3, Bool.true_and]; rw [h4, Bool.true_and]; rw [h5, Bool.false_and])
    clear h0 h1 h2 h3 h4 h5
    go_enter Try.func62, Try.ntmps62
    go_wp2_with fail
    refine (within_c H0.out _).mono ?_
    rintro e w2 ⟨rfl, rfl⟩
    go_wp2_with fail
    refine (within_c H1.out _).mono ?_
    rintro e w2 ⟨rfl, rfl⟩
    go_wp2_with fail
    refine (within_c H2.out _).mono ?_
    rintro e w2 ⟨rfl, rfl⟩
    go_wp2_with fail
    refine (within_c H3.out _).mono ?_
    rintro e w2 ⟨rfl, rfl⟩
    go_wp2_with fail
    refine (within_c H4.out _).mono ?_
    rintro e w2 ⟨rfl, rfl⟩
    go_wp2_with fail
    refine (within_c H5.out _).mono ?_
    rintro e w2 ⟨rfl, rfl⟩
    go_wp2
    go_ret
    exact ⟨ret_b (by rw [HF.out]), bW⟩
  have H0 := Lib.hid h0
  have H1 := Lib.hid h1
  have H2 := Lib.hid h2
  have H3 := Lib.hid h3
  have H4 := Lib.hid h4
  have H5 := Lib.hid h5
  have HF := Lib.hid (show timB p = (decide (p.wk + p.cl ≤ p.mx) && decide (p.wk = 0 ↔ p.cl = 0)) by unfold timB; rw [h0, Bool.true_and]; rw [h1, Bool.true_and]; rw [h2, Bool.true_and]; rw [h3, Bool.true_and]; rw [h4, Bool.true_and]; rw [h5, Bool.true_and])
  have ha : 0 ≤ p.wk ∧ p.wk ≤ 60 := by unfold inR at h4; simpa using h4
  have hb : 0 ≤ p.cl ∧ p.cl ≤ 60 := by unfold inR at h5; simpa using h5
  have zw : IntKind.i64.wrap (p.wk + p.cl) = p.wk + p.cl := by rw [IntKind.wrap_i64]; omega
  clear h0 h1 h2 h3 h4 h5
  by_cases g0 : p.wk + p.cl ≤ p.mx
  · have y0 : decide (p.wk + p.cl ≤ p.mx) = true := decide_eq_true g0
    by_cases g1 : p.wk = 0
    · by_cases g2 : p.cl = 0
      · have y1 : (p.wk == 0) = true := by simpa using g1
        have y2 : (p.cl == 0) = true := by simpa using g2
        have HE := Lib.hid (show timB p = true by rw [HF.out, y0, Bool.true_and]; simp [g1, g2])
        clear g0 g1 g2
        go_enter Try.func62, Try.ntmps62
        go_wp2_with fail
        refine (within_c H0.out _).mono ?_
        rintro e w2 ⟨rfl, rfl⟩
        go_wp2_with fail
        refine (within_c H1.out _).mono ?_
        rintro e w2 ⟨rfl, rfl⟩
        go_wp2_with fail
        refine (within_c H2.out _).mono ?_
        rintro e w2 ⟨rfl, rfl⟩
        go_wp2_with fail
        refine (within_c H3.out _).mono ?_
        rintro e w2 ⟨rfl, rfl⟩
        go_wp2_with fail
        refine (within_c H4.out _).mono ?_
        rintro e w2 ⟨rfl, rfl⟩
        go_wp2_with fail
        refine (within_c H5.out _).mono ?_
        rintro e w2 ⟨rfl, rfl⟩
        go_wp2
        go_ret
        exact ⟨ret_b (HE.out.symm), bW⟩
      · have y1 : (p.wk == 0) = true := by simpa using g1
        have y2 : (p.cl == 0) = false := by simpa using g2
        have HE := Lib.hid (show timB p = false by rw [HF.out, y0, Bool.true_and]; simp [g1, g2])
        clear g0 g1 g2
        go_enter Try.func62, Try.ntmps62
        go_wp2_with fail
        refine (within_c H0.out _).mono ?_
        rintro e w2 ⟨rfl, rfl⟩
        go_wp2_with fail
        refine (within_c H1.out _).mono ?_
        rintro e w2 ⟨rfl, rfl⟩
        go_wp2_with fail
        refine (within_c H2.out _).mono ?_
        rintro e w2 ⟨rfl, rfl⟩
        go_wp2_with fail
        refine (within_c H3.out _).mono ?_
        rintro e w2 ⟨rfl, rfl⟩
        go_wp2_with fail
        refine (within_c H4.out _).mono ?_
        rintro e w2 ⟨rfl, rfl⟩
        go_wp2_with fail
        refine (within_c H5.out _).mono ?_
        rintro e w2 ⟨rfl, rfl⟩
        go_wp2
        go_ret
        exact ⟨ret_b (HE.out.symm), bW⟩
    · by_cases g2 : p.cl = 0
      · have y1 : (p.wk == 0) = false := by simpa using g1
        have y2 : (p.cl == 0) = true := by simpa using g2
        have HE := Lib.hid (show timB p = false by rw [HF.out, y0, Bool.true_and]; simp [g1, g2])
        clear g0 g1 g2
        go_enter Try.func62, Try.ntmps62
        go_wp2_with fail
        refine (within_c H0.out _).mono ?_
        rintro e w2 ⟨rfl, rfl⟩
        go_wp2_with fail
        refine (within_c H1.out _).mono ?_
        rintro e w2 ⟨rfl, rfl⟩
        go_wp2_with fail
        refine (within_c H2.out _).mono ?_
        rintro e w2 ⟨rfl, rfl⟩
        go_wp2_with fail
        refine (within_c H3.out _).mono ?_
        rintro e w2 ⟨rfl, rfl⟩
        go_wp2_with fail
        refine (within_c H4.out _).mono ?_
        rintro e w2 ⟨rfl, rfl⟩
        go_wp2_with fail
        refine (within_c H5.out _).mono ?_
        rintro e w2 ⟨rfl, rfl⟩
        go_wp2
        go_ret
        exact ⟨ret_b (HE.out.symm), bW⟩
      · have y1 : (p.wk == 0) = false := by simpa using g1
        have y2 : (p.cl == 0) = false := by simpa using g2
        have HE := Lib.hid (show timB p = true by rw [HF.out, y0, Bool.true_and]; simp [g1, g2])
        clear g0 g1 g2
        go_enter Try.func62, Try.ntmps62
        go_wp2_with fail
        refine (within_c H0.out _).mono ?_
        rintro e w2 ⟨rfl, rfl⟩
        go_wp2_with fail
        refine (within_c H1.out _).mono ?_
        rintro e w2 ⟨rfl, rfl⟩
        go_wp2_with fail
        refine (within_c H2.out _).mono ?_
        rintro e w2 ⟨rfl, rfl⟩
        go_wp2_with fail
        refine (within_c H3.out _).mono ?_
        rintro e w2 ⟨rfl, rfl⟩
        go_wp2_with fail
        refine (within_c H4.out _).mono ?_
        rintro e w2 ⟨rfl, rfl⟩
        go_wp2_with fail
        refine (within_c H5.out _).mono ?_
        rintro e w2 ⟨rfl, rfl⟩
        go_wp2
        go_ret
        exact ⟨ret_b (HE.out.symm), bW⟩
  · have y0 : decide (p.wk + p.cl ≤ p.mx) = false := decide_eq_false g0
    have HE := Lib.hid (show timB p = false by rw [HF.out, y0, Bool.false_and])
    clear g0
    go_enter Try.func62, Try.ntmps62
    go_wp2_with fail
    refine (within_c H0.out _).mono ?_
    rintro e w2 ⟨rfl, rfl⟩
    go_wp2_with fail
    refine (within_c H1.out _).mono ?_
    rintro e w2 ⟨rfl, rfl⟩
    go_wp2_with fail
    refine (within_c H2.out _).mono ?_
    rintro e w2 ⟨rfl, rfl⟩
    go_wp2_with fail
    refine (within_c H3.out _).mono ?_
    rintro e w2 ⟨rfl, rfl⟩
    go_wp2_with fail
    refine (within_c H4.out _).mono ?_
    rintro e w2 ⟨rfl, rfl⟩
    go_wp2_with fail
    refine (within_c H5.out _).mono ?_
    rintro e w2 ⟨rfl, rfl⟩
    go_wp2
    go_ret
    exact ⟨ret_b (HE.out.symm), bW⟩
end Go.Proofs.Ytkpbkahmbbkcdaa
