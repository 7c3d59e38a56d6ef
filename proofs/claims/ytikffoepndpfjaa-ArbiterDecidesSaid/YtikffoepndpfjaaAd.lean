/-
  A tick of green is counted; whether a service is to end; what is decided. Conditions: small numbers.
-/
import Derived.Test.YtikffoepndpfjaaAb
namespace Go.Proofs.Ytikffoepndpfjaa
open Go.ChangeShapes Go.WideShapes Go.RowKit
set_option linter.unusedVariables false

theorem store_new1 {w1 : World} {v u : Value} {T : TypeId} (hv : v.oneCell' = true) : (store ⟨w1.heap.size, 0, none⟩ v).run Try.prog (w1.alloc (.cells #[u] T)) = .ok () (w1.alloc (.cells #[v] T)) := by
  have B := Blk.new (w := w1) (t := T) (cs := #[u])
  have c := B.at 0 rfl
  have f := B.frozen 0
  rw [run_store _ _ _ _ _ hv, c, f]
  simp [World.setCell_alloc_at]
def grC (green : Bool) (ph gr : Int) : Int := if green = true ∧ ph ≠ -1 then min (gr + 1) 60 else gr
set_option maxRecDepth 20000 in
set_option maxHeartbeats 2000000 in
theorem count_any (ph gr : Int) (A : Option Addr) (n c : Nat) (E : List Int) (green : Bool) (w : World) (hn : E.length = n) (hI : Ints .i64 w w.heap.size A E) (hp : 0 < n) (hl : n ≤ 1000000) (hg : 0 ≤ gr ∧ gr ≤ 60) :
    Calls Try.prog 23 #[.agg #[.int .i64 ph, .int .i64 gr, .slice A n c], .bool green] w fun e w' => SvOut w ph (grC green ph gr) n E e w' := by
  have bX := lat_alloc (lat_alloc (Below.refl w.heap.size w) (.cells #[.int .i64 ph, .int .i64 gr, .slice A n c] 24)) (.cells #[.int .i64 0, .int .i64 0, .slice none 0 0] 24)
  have B0 := Blk.alloc (Blk.new (w := w) (t := 24) (cs := #[.int .i64 ph, .int .i64 gr, .slice A n c])) (.cells #[.int .i64 0, .int .i64 0, .slice none 0 0] 24)
  have B1 := Blk.new (w := w.alloc (.cells #[.int .i64 ph, .int .i64 gr, .slice A n c] 24)) (t := 24) (cs := #[.int .i64 0, .int .i64 0, .slice none 0 0])
  rw [heap_size] at B1
  have hIX := hI.grow bX
  cases green with
  | false =>
    rw [show grC false ph gr = gr from rfl]
    go_enter Try.func23, Try.ntmps23
    go_wp2_with fail
    have hltW := B1.lt
    generalize ((w.alloc (.cells #[.int .i64 ph, .int .i64 gr, .slice A n c] 24)).alloc (.cells #[.int .i64 0, .int .i64 0, .slice none 0 0] 24)) = W at *
    refine (clone_any ph gr A n c E W hn hIX hp hl).mono ?_
    rintro e w2 ⟨A2, c2, rfl, hb2, own⟩
    have C0 := B0.below hb2
    have C1 := B1.below hb2
    have bz := bX.trans (hb2.mono bX.size)
    have hW2 := hb2.size
    clear hn
    go_wp2_with (show wpList _ _ _ (Oper.mk none (.store _ (.tmp 2) (.tmp 6)) _ _ _ _ :: _) _ _; refine wpList_store3 rfl rfl rfl rfl rfl C0 ⟨rfl, rfl, rfl⟩ ⟨_, _, rfl⟩ ⟨_, _, rfl⟩ ⟨_, _, _, rfl⟩ ?_; intro w3 D0 g3; have D1 := C1.grown g3 (by intro e; injection e with e; omega); have own3 := own.block (w' := w3) (fun b hb => g3.block b (own.lt hb).2 (by have := (own.lt hb).1; intro e; injection e with e; omega)); have bz3 := bz.grown g3 bz.size (fun k e => by injection e with e; omega); obtain ⟨t0, t1, t2, f0, f1, f2⟩ := D0.three; obtain ⟨u0, u1, u2, h0, h1, h2⟩ := D1.three)
    refine bodyPost_ret (results_cell rfl rfl (load_service (Blk.set3 D1 _ _ _))) rfl ?_
    exact ⟨A2, c2, rfl, below_set3 bz3 (by omega) _ _ _, (((own3.away (by omega) _).away (by omega) _).away (by omega) _).rebase (by omega)⟩
  | true =>
    by_cases q : ph = -1
    · subst q
      rw [show grC true (-1) gr = gr from rfl]
      go_enter Try.func23, Try.ntmps23
      go_wp2_with fail
      have hltW := B1.lt
      generalize ((w.alloc (.cells #[.int .i64 (-1), .int .i64 gr, .slice A n c] 24)).alloc (.cells #[.int .i64 0, .int .i64 0, .slice none 0 0] 24)) = W at *
      refine (clone_any (-1) gr A n c E W hn hIX hp hl).mono ?_
      rintro e w2 ⟨A2, c2, rfl, hb2, own⟩
      have C0 := B0.below hb2
      have C1 := B1.below hb2
      have bz := bX.trans (hb2.mono bX.size)
      have hW2 := hb2.size
      clear hn
      go_wp2_with (show wpList _ _ _ (Oper.mk none (.store _ (.tmp 2) (.tmp 6)) _ _ _ _ :: _) _ _; refine wpList_store3 rfl rfl rfl rfl rfl C0 ⟨rfl, rfl, rfl⟩ ⟨_, _, rfl⟩ ⟨_, _, rfl⟩ ⟨_, _, _, rfl⟩ ?_; intro w3 D0 g3; have D1 := C1.grown g3 (by intro e; injection e with e; omega); have own3 := own.block (w' := w3) (fun b hb => g3.block b (own.lt hb).2 (by have := (own.lt hb).1; intro e; injection e with e; omega)); have bz3 := bz.grown g3 bz.size (fun k e => by injection e with e; omega); obtain ⟨t0, t1, t2, f0, f1, f2⟩ := D0.three; obtain ⟨u0, u1, u2, h0, h1, h2⟩ := D1.three)
      refine bodyPost_ret (results_cell rfl rfl (load_service (Blk.set3 D1 _ _ _))) rfl ?_
      exact ⟨A2, c2, rfl, below_set3 bz3 (by omega) _ _ _, (((own3.away (by omega) _).away (by omega) _).away (by omega) _).rebase (by omega)⟩
    · have z : (ph != -1) = true := by simpa using q
      have HQ := Lib.hid q
      by_cases q6 : gr + 1 ≤ 60
      · have HG : Hid (grC true ph gr = gr + 1) := Lib.hid (by unfold grC; rw [if_pos ⟨rfl, q⟩]; omega)
        clear q
        rw [HG.out]
        go_enter Try.func23, Try.ntmps23
        go_wp2_with fail
        have hltW := B1.lt
        generalize ((w.alloc (.cells #[.int .i64 ph, .int .i64 gr, .slice A n c] 24)).alloc (.cells #[.int .i64 0, .int .i64 0, .slice none 0 0] 24)) = W at *
        refine (clone_any ph gr A n c E W hn hIX hp hl).mono ?_
        rintro e w2 ⟨A2, c2, rfl, hb2, own⟩
        have C0 := B0.below hb2
        have C1 := B1.below hb2
        have bz := bX.trans (hb2.mono bX.size)
        have hW2 := hb2.size
        clear hn
        go_wp2_with (show wpList _ _ _ (Oper.mk none (.store _ (.tmp 2) (.tmp 6)) _ _ _ _ :: _) _ _; refine wpList_store3 rfl rfl rfl rfl rfl C0 ⟨rfl, rfl, rfl⟩ ⟨_, _, rfl⟩ ⟨_, _, rfl⟩ ⟨_, _, _, rfl⟩ ?_; intro w3 D0 g3; have D1 := C1.grown g3 (by intro e; injection e with e; omega); have own3 := own.block (w' := w3) (fun b hb => g3.block b (own.lt hb).2 (by have := (own.lt hb).1; intro e; injection e with e; omega)); have bz3 := bz.grown g3 bz.size (fun k e => by injection e with e; omega); obtain ⟨t0, t1, t2, f0, f1, f2⟩ := D0.three; obtain ⟨u0, u1, u2, h0, h1, h2⟩ := D1.three)
        refine bodyPost_ret (results_cell rfl rfl (load_service (Blk.set3 (D1.far (p := ⟨w.heap.size, 1, none⟩) (by simp) _) _ _ _))) rfl ?_
        exact ⟨A2, c2, rfl, below_set3 (bz3.setCell (p := ⟨w.heap.size, 1, none⟩) (Nat.le_refl _) _) (by omega) _ _ _, ((((own3.away (b := w.heap.size) (by omega) _).away (by omega) _).away (by omega) _).away (by omega) _).rebase (by omega)⟩
      · have HG : Hid (grC true ph gr = 60) := Lib.hid (by unfold grC; rw [if_pos ⟨rfl, q⟩]; omega)
        clear q
        rw [HG.out]
        go_enter Try.func23, Try.ntmps23
        go_wp2_with fail
        have hltW := B1.lt
        generalize ((w.alloc (.cells #[.int .i64 ph, .int .i64 gr, .slice A n c] 24)).alloc (.cells #[.int .i64 0, .int .i64 0, .slice none 0 0] 24)) = W at *
        refine (clone_any ph gr A n c E W hn hIX hp hl).mono ?_
        rintro e w2 ⟨A2, c2, rfl, hb2, own⟩
        have C0 := B0.below hb2
        have C1 := B1.below hb2
        have bz := bX.trans (hb2.mono bX.size)
        have hW2 := hb2.size
        clear hn
        go_wp2_with (show wpList _ _ _ (Oper.mk none (.store _ (.tmp 2) (.tmp 6)) _ _ _ _ :: _) _ _; refine wpList_store3 rfl rfl rfl rfl rfl C0 ⟨rfl, rfl, rfl⟩ ⟨_, _, rfl⟩ ⟨_, _, rfl⟩ ⟨_, _, _, rfl⟩ ?_; intro w3 D0 g3; have D1 := C1.grown g3 (by intro e; injection e with e; omega); have own3 := own.block (w' := w3) (fun b hb => g3.block b (own.lt hb).2 (by have := (own.lt hb).1; intro e; injection e with e; omega)); have bz3 := bz.grown g3 bz.size (fun k e => by injection e with e; omega); obtain ⟨t0, t1, t2, f0, f1, f2⟩ := D0.three; obtain ⟨u0, u1, u2, h0, h1, h2⟩ := D1.three)
        refine bodyPost_ret (results_cell rfl rfl (load_service (Blk.set3 (D1.far (p := ⟨w.heap.size, 1, none⟩) (by simp) _) _ _ _))) rfl ?_
        exact ⟨A2, c2, rfl, below_set3 (bz3.setCell (p := ⟨w.heap.size, 1, none⟩) (Nat.le_refl _) _) (by omega) _ _ _, ((((own3.away (b := w.heap.size) (by omega) _).away (by omega) _).away (by omega) _).away (by omega) _).rebase (by omega)⟩
/-- Whether a service is to end. -/
def overB (hold ph gr : Int) (C : List Cl) : Bool := !(C.any fun z => z.ph == ph) || decide (hold ≤ gr) || ((C.any fun z => emB z.cl) && !(C.any fun z => z.ph == ph && emB z.cl))
set_option maxRecDepth 20000 in
set_option maxHeartbeats 2000000 in
theorem isover_any (per cap hold lock ph gr : Int) (A : Option Addr) (n c : Nat) (D : Option Addr) (d : Nat) (C : List Cl) (w : World) (hC : Cls w w.heap.size D C) (hl : C.length ≤ 1000000) :
    Calls Try.prog 30 #[.agg #[.slice none 0 0, .slice none 0 0, .int .i64 per, .int .i64 cap, .int .i64 hold, .int .i64 lock], .agg #[.int .i64 ph, .int .i64 gr, .slice A n c], .slice D C.length d] w fun e w' => e = .returned (.bool (overB hold ph gr C)) ∧ Below w.heap.size w w' := by
  have bX := lat_alloc (lat_alloc (lat_alloc (Below.refl w.heap.size w) (.cells #[.slice none 0 0, .slice none 0 0, .int .i64 per, .int .i64 cap, .int .i64 hold, .int .i64 lock] 33)) (.cells #[.int .i64 ph, .int .i64 gr, .slice A n c] 24)) (.cells #[.func (.func 35) #[] #[.pointer (some ⟨w.heap.size + 1, 0, none⟩)]] 48)
  have B0 := ((Blk.new (w := w) (t := 33) (cs := #[.slice none 0 0, .slice none 0 0, .int .i64 per, .int .i64 cap, .int .i64 hold, .int .i64 lock])).alloc (.cells #[.int .i64 ph, .int .i64 gr, .slice A n c] 24)).alloc (.cells #[.func (.func 35) #[] #[.pointer (some ⟨w.heap.size + 1, 0, none⟩)]] 48)
  have B1 := (Blk.new (w := w.alloc (.cells #[.slice none 0 0, .slice none 0 0, .int .i64 per, .int .i64 cap, .int .i64 hold, .int .i64 lock] 33)) (t := 24) (cs := #[.int .i64 ph, .int .i64 gr, .slice A n c])).alloc (.cells #[.func (.func 35) #[] #[.pointer (some ⟨w.heap.size + 1, 0, none⟩)]] 48)
  have B2 := Blk.new (w := (w.alloc (.cells #[.slice none 0 0, .slice none 0 0, .int .i64 per, .int .i64 cap, .int .i64 hold, .int .i64 lock] 33)).alloc (.cells #[.int .i64 ph, .int .i64 gr, .slice A n c] 24)) (t := 48) (cs := #[.func (.func 35) #[] #[.pointer (some ⟨w.heap.size + 1, 0, none⟩)]])
  rw [heap_size] at B1
  rw [heap_size, heap_size] at B2
  have hCX := hC.grow bX
  have hst := store_new1 (w1 := (w.alloc (.cells #[.slice none 0 0, .slice none 0 0, .int .i64 per, .int .i64 cap, .int .i64 hold, .int .i64 lock] 33)).alloc (.cells #[.int .i64 ph, .int .i64 gr, .slice A n c] 24)) (v := .func (.func 35) #[] #[.pointer (some ⟨w.heap.size + 1, 0, none⟩)]) (u := .nilFunc) (T := 48) rfl
  rw [heap_size, heap_size] at hst
  go_enter Try.func30, Try.ntmps30
  go_wp2_with fail
  clear hst
  generalize ((w.alloc (.cells #[.slice none 0 0, .slice none 0 0, .int .i64 per, .int .i64 cap, .int .i64 hold, .int .i64 lock] 33)).alloc (.cells #[.int .i64 ph, .int .i64 gr, .slice A n c] 24)).alloc (.cells #[.func (.func 35) #[] #[.pointer (some ⟨w.heap.size + 1, 0, none⟩)]] 48) = W at *
  cases h1 : (C.any fun z => z.ph == ph) with
  | false =>
    have H1 := Lib.hid h1
    have HO : Hid (overB hold ph gr C = true) := Lib.hid (by unfold overB; rw [h1]; simp)
    clear h1
    refine (has_served D d C (w.heap.size + 1) ph W hCX hl (B1.at 0 rfl) B1.lt H1.out).mono ?_
    rintro e w2 ⟨rfl, hb2⟩
    go_wp2
    go_ret
    exact ⟨ret_b HO.out.symm, bX.trans (hb2.mono bX.size)⟩
  | true =>
    have H1 := Lib.hid h1
    by_cases h2 : hold ≤ gr
    · have z : decide (gr ≥ hold) = true := by simpa using h2
      have HO : Hid (overB hold ph gr C = true) := Lib.hid (by unfold overB; rw [h1]; simp [h2])
      clear h1 h2
      refine (has_served D d C (w.heap.size + 1) ph W hCX hl (B1.at 0 rfl) B1.lt H1.out).mono ?_
      rintro e w2 ⟨rfl, hb2⟩
      have D0 := B0.below hb2
      have D1 := B1.below hb2
      have o0 := D0.at 0 rfl
      have o1 := D0.at 1 rfl
      have o2 := D0.at 2 rfl
      have o3 := D0.at 3 rfl
      have o4 := D0.at 4 rfl
      have o5 := D0.at 5 rfl
      have p0 := D1.at 0 rfl
      have p1 := D1.at 1 rfl
      have p2 := D1.at 2 rfl
      go_wp2
      go_ret
      exact ⟨ret_b HO.out.symm, bX.trans (hb2.mono bX.size)⟩
    · have z : decide (gr ≥ hold) = false := by simpa using h2
      have HO : Hid (overB hold ph gr C = ((C.any fun z => emB z.cl) && !(C.any fun z => z.ph == ph && emB z.cl))) := Lib.hid (by unfold overB; rw [h1]; simp [h2])
      clear h1 h2
      refine (has_served D d C (w.heap.size + 1) ph W hCX hl (B1.at 0 rfl) B1.lt H1.out).mono ?_
      rintro e w2 ⟨rfl, hb2⟩
      have D0 := B0.below hb2
      have D1 := B1.below hb2
      have D2 := B2.below hb2
      have hC2 := hCX.grow hb2
      have bz := bX.trans (hb2.mono bX.size)
      have o0 := D0.at 0 rfl
      have o1 := D0.at 1 rfl
      have o2 := D0.at 2 rfl
      have o3 := D0.at 3 rfl
      have o4 := D0.at 4 rfl
      have o5 := D0.at 5 rfl
      have p0 := D1.at 0 rfl
      have p1 := D1.at 1 rfl
      have p2 := D1.at 2 rfl
      go_wp2_with fail
      cases h3 : (C.any fun z => emB z.cl) with
      | false =>
        have H3 := Lib.hid h3
        have HO2 : Hid (overB hold ph gr C = false) := Lib.hid (by rw [HO.out, h3]; rfl)
        clear h3
        refine (has_urgent D d C w2 hC2 hl H3.out).mono ?_
        rintro e w3 ⟨rfl, hb3⟩
        clear o0 o1 o2 o3 o4 o5 p0 p1 p2
        go_wp2
        go_ret
        exact ⟨ret_b HO2.out.symm, bz.trans (hb3.mono bz.size)⟩
      | true =>
        have H3 := Lib.hid h3
        have HO2 : Hid (overB hold ph gr C = !(C.any fun z => z.ph == ph && emB z.cl)) := Lib.hid (by rw [HO.out, h3]; simp)
        clear h3
        refine (has_urgent D d C w2 hC2 hl H3.out).mono ?_
        rintro e w3 ⟨rfl, hb3⟩
        clear o0 o1 o2 o3 o4 o5 p0 p1 p2
        have E1 := D1.below hb3
        have E2 := D2.below hb3
        have hC3 := hC2.grow hb3
        have bz3 := bz.trans (hb3.mono bz.size)
        go_wp2_with fail
        refine (has_own D d C (w.heap.size + 1) (w.heap.size + 1 + 1) ph w3 hC3 hl (E1.at 0 rfl) E1.lt (E2.at 0 rfl) E2.lt rfl).mono ?_
        rintro e w4 ⟨rfl, hb4⟩
        go_wp2
        go_ret
        exact ⟨ret_b HO2.out.symm, bz3.trans (hb4.mono bz3.size)⟩
end Go.Proofs.Ytikffoepndpfjaa
