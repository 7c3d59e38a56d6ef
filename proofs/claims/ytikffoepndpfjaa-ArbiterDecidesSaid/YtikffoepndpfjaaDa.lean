/-
  The other side's services are copied, counted, begun, ended. Conditions: the list of ends is in memory.
-/
import Derived.Test.YtikffoepndpfjaaAe
namespace Go.Proofs.Ytikffoepndpfjaa
open Go.ChangeShapes Go.WideShapes Go.RowKit
set_option linter.unusedVariables false

/-- A service is returned, its list of ends somewhere in memory. -/
def SvI (w : World) (ph gr : Int) (n : Nat) (E : List Int) (e : Ending) (w' : World) : Prop :=
  ∃ A c, e = .returned (.agg #[.int .i64 ph, .int .i64 gr, .slice A n c]) ∧ Below w.heap.size w w' ∧ Ints .i64 w' w'.heap.size A E ∧ E.length = n ∧ ∀ a, A = some a → w.heap.size ≤ a.block
theorem SvOut.i {w : World} {ph gr : Int} {n : Nat} {E : List Int} {e : Ending} {w' : World} (h : SvOut w ph gr n E e w') : SvI w ph gr n E e w' := by
  obtain ⟨A, c, h1, h2, h3⟩ := h
  exact ⟨A, c, h1, h2, h3.intsN.1, h3.intsN.2, fun a ha => by subst ha; exact (h3.lt rfl).1⟩
theorem Ints.set1 {w : World} {b i : Nat} {A : Option Addr} {E : List Int} (h : Ints .i64 w w.heap.size A E) (hp : ∀ a, A = some a → a.block ≠ b) (x : Value) : Ints .i64 (w.setCell ⟨b, i, none⟩ x) (w.setCell ⟨b, i, none⟩ x).heap.size A E :=
  (h.far hp x).more (grownBy_set w b i x).size
theorem Ints.set3 {w : World} {b : Nat} {A : Option Addr} {E : List Int} (h : Ints .i64 w w.heap.size A E) (hp : ∀ a, A = some a → a.block ≠ b) (x y z : Value) : Ints .i64 (((w.setCell ⟨b, 0, none⟩ x).setCell ⟨b, 1, none⟩ y).setCell ⟨b, 2, none⟩ z) (((w.setCell ⟨b, 0, none⟩ x).setCell ⟨b, 1, none⟩ y).setCell ⟨b, 2, none⟩ z).heap.size A E :=
  ((h.set1 hp x).set1 hp y).set1 hp z
set_option maxRecDepth 20000 in
set_option maxHeartbeats 2000000 in
theorem rcopy_any (ph gr : Int) (A : Option Addr) (n c : Nat) (E : List Int) (w : World) (hn : E.length = n) (hI : Ints .i64 w w.heap.size A E) (hl : n ≤ 1000000) :
    Calls Try.prog 29 #[.agg #[.int .i64 ph, .int .i64 gr, .slice A n c]] w fun e w' => SvOut w ph gr n E e w' := by
  have bX := lat_alloc (lat_alloc (Below.refl w.heap.size w) (.cells #[.int .i64 ph, .int .i64 gr, .slice A n c] 24)) (.cells #[.int .i64 0, .int .i64 0, .slice none 0 0] 24)
  have B0 := Blk.alloc (Blk.new (w := w) (t := 24) (cs := #[.int .i64 ph, .int .i64 gr, .slice A n c])) (.cells #[.int .i64 0, .int .i64 0, .slice none 0 0] 24)
  have B1 := Blk.new (w := w.alloc (.cells #[.int .i64 ph, .int .i64 gr, .slice A n c] 24)) (t := 24) (cs := #[.int .i64 0, .int .i64 0, .slice none 0 0])
  rw [heap_size] at B1
  have hIX := hI.grow bX
  go_enter Try.func29, Try.ntmps29
  have hltW := B1.lt
  have HN := Lib.hid hn
  clear hn
  go_wp2_with (at_builtin; generalize ((w.alloc (.cells #[.int .i64 ph, .int .i64 gr, .slice A n c] 24)).alloc (.cells #[.int .i64 0, .int .i64 0, .slice none 0 0] 24)) = W at *; have own0 := Own.nil_ .i64 3 W W.heap.size; refine wpList_append_ints rfl (.const (.slice none 0 0)) (.tmp 4) _ rfl W.heap.size 3 .i64 8 Try.underlying22 int_info (.slice none 0 0) [] rfl own0 A c E n HN.out rfl hIX (by simp; have := HN.out; omega) (by omega) (Nat.le_refl _) ?_; intro v1 w1 own1 g1 a1; have b1 := (Below.refl W.heap.size W).grown g1 (Nat.le_refl _) (fun k e => by cases e); have C0 := B0.below b1; have C1 := B1.below b1; rw [List.nil_append] at own1; have hv1 := own_len own1 HN.out; obtain ⟨A2, c2, hv1⟩ := hv1; subst hv1; obtain ⟨t0, t1, t2, f0, f1, f2⟩ := C0.three; obtain ⟨u0, u1, u2, h0, h1, h2⟩ := C1.three)
  have D1 := Blk.far C1 (p := ⟨w.heap.size, 2, none⟩) (by simp) (.slice A2 n c2)
  refine bodyPost_ret (results_cell rfl rfl (load_service (Blk.set3 D1 _ _ _))) rfl ?_
  have bz := bX.trans (b1.mono bX.size)
  refine ⟨A2, c2, rfl, below_set3 (bz.setCell (p := ⟨w.heap.size, 2, none⟩) (Nat.le_refl _) _) (by omega) _ _ _, ?_⟩
  exact ((((own1.away (b := w.heap.size) (by omega) _).away (by omega) _).away (by omega) _).away (by omega) _).rebase (by omega)
set_option maxRecDepth 20000 in
set_option maxHeartbeats 2000000 in
theorem rcount_any (ph gr : Int) (A : Option Addr) (n c : Nat) (E : List Int) (green : Bool) (w : World) (hn : E.length = n) (hI : Ints .i64 w w.heap.size A E) (hl : n ≤ 1000000) (hg : 0 ≤ gr ∧ gr ≤ 60) :
    Calls Try.prog 24 #[.agg #[.int .i64 ph, .int .i64 gr, .slice A n c], .bool green] w fun e w' => SvI w ph (grC green ph gr) n E e w' := by
  have bX := lat_alloc (lat_alloc (Below.refl w.heap.size w) (.cells #[.int .i64 ph, .int .i64 gr, .slice A n c] 24)) (.cells #[.int .i64 0, .int .i64 0, .slice none 0 0] 24)
  have B0 := Blk.alloc (Blk.new (w := w) (t := 24) (cs := #[.int .i64 ph, .int .i64 gr, .slice A n c])) (.cells #[.int .i64 0, .int .i64 0, .slice none 0 0] 24)
  have B1 := Blk.new (w := w.alloc (.cells #[.int .i64 ph, .int .i64 gr, .slice A n c] 24)) (t := 24) (cs := #[.int .i64 0, .int .i64 0, .slice none 0 0])
  rw [heap_size] at B1
  have hIX := hI.grow bX
  cases green with
  | false =>
    rw [show grC false ph gr = gr from rfl]
    go_enter Try.func24, Try.ntmps24
    go_wp2_with fail
    have hltW := B1.lt
    generalize ((w.alloc (.cells #[.int .i64 ph, .int .i64 gr, .slice A n c] 24)).alloc (.cells #[.int .i64 0, .int .i64 0, .slice none 0 0] 24)) = W at *
    refine (rcopy_any (ph) gr A n c E W hn hIX hl).mono ?_
    rintro e w2 ⟨A2, c2, rfl, hb2, own⟩
    have hI2 := own.intsN.1
    have hfar : ∀ a, A2 = some a → W.heap.size ≤ a.block ∧ a.block < w2.heap.size := fun a ha => by subst ha; exact own.lt rfl
    have bN := lat_alloc (Below.refl w2.heap.size w2) (.cells #[.int .i64 ph, .int .i64 gr, .slice A2 n c2] 24)
    have B5 := Blk.new (w := w2) (t := 24) (cs := #[.int .i64 ph, .int .i64 gr, .slice A2 n c2])
    have D0 := (B0.below hb2).below bN
    have D1 := (B1.below hb2).below bN
    have hI5 := hI2.grow bN
    have bz := bX.trans ((hb2.trans (bN.mono hb2.size)).mono bX.size)
    have hW2 := hb2.size
    have HN := Lib.hid hn
    clear hn
    have hne1 : w2.heap.size ≠ w.heap.size + 1 := by omega
    have hne2 : w.heap.size + 1 ≠ w2.heap.size := by omega
    have hne3 : w2.heap.size ≠ w.heap.size := by omega
    have o0 := D0.at 0 rfl
    have o1 := D0.at 1 rfl
    have o2 := D0.at 2 rfl
    obtain ⟨p0, p1, p2, f0, f1, f2⟩ := B5.three
    obtain ⟨r0, r1, r2, h0, h1, h2⟩ := D1.three

    go_wp2
    refine bodyPost_ret (results_cell rfl rfl (load_service (Blk.set3 D1 _ _ _))) rfl ?_
    exact ⟨A2, c2, rfl, below_set3 bz (by omega) _ _ _, hI5.set3 (fun a ha => by have := hfar a ha; omega) _ _ _, HN.out, fun a ha => by have := hfar a ha; omega⟩
  | true =>
    by_cases q : ph = -1
    · subst q
      rw [show grC true (-1) gr = gr from rfl]
      go_enter Try.func24, Try.ntmps24
      go_wp2_with fail
      have hltW := B1.lt
      generalize ((w.alloc (.cells #[.int .i64 (-1), .int .i64 gr, .slice A n c] 24)).alloc (.cells #[.int .i64 0, .int .i64 0, .slice none 0 0] 24)) = W at *
      refine (rcopy_any ((-1)) gr A n c E W hn hIX hl).mono ?_
      rintro e w2 ⟨A2, c2, rfl, hb2, own⟩
      have hI2 := own.intsN.1
      have hfar : ∀ a, A2 = some a → W.heap.size ≤ a.block ∧ a.block < w2.heap.size := fun a ha => by subst ha; exact own.lt rfl
      have bN := lat_alloc (Below.refl w2.heap.size w2) (.cells #[.int .i64 (-1), .int .i64 gr, .slice A2 n c2] 24)
      have B5 := Blk.new (w := w2) (t := 24) (cs := #[.int .i64 (-1), .int .i64 gr, .slice A2 n c2])
      have D0 := (B0.below hb2).below bN
      have D1 := (B1.below hb2).below bN
      have hI5 := hI2.grow bN
      have bz := bX.trans ((hb2.trans (bN.mono hb2.size)).mono bX.size)
      have hW2 := hb2.size
      have HN := Lib.hid hn
      clear hn
      have hne1 : w2.heap.size ≠ w.heap.size + 1 := by omega
      have hne2 : w.heap.size + 1 ≠ w2.heap.size := by omega
      have hne3 : w2.heap.size ≠ w.heap.size := by omega
      have o0 := D0.at 0 rfl
      have o1 := D0.at 1 rfl
      have o2 := D0.at 2 rfl
      obtain ⟨p0, p1, p2, f0, f1, f2⟩ := B5.three
      obtain ⟨r0, r1, r2, h0, h1, h2⟩ := D1.three

      go_wp2
      refine bodyPost_ret (results_cell rfl rfl (load_service (Blk.set3 D1 _ _ _))) rfl ?_
      exact ⟨A2, c2, rfl, below_set3 bz (by omega) _ _ _, hI5.set3 (fun a ha => by have := hfar a ha; omega) _ _ _, HN.out, fun a ha => by have := hfar a ha; omega⟩
    · have z : (ph != -1) = true := by simpa using q
      by_cases q6 : gr + 1 ≤ 60
      · have HG : Hid (grC true ph gr = gr + 1) := Lib.hid (by unfold grC; rw [if_pos ⟨rfl, q⟩]; omega)
        clear q
        rw [HG.out]
        go_enter Try.func24, Try.ntmps24
        go_wp2_with fail
        have hltW := B1.lt
        generalize ((w.alloc (.cells #[.int .i64 ph, .int .i64 gr, .slice A n c] 24)).alloc (.cells #[.int .i64 0, .int .i64 0, .slice none 0 0] 24)) = W at *
        refine (rcopy_any (ph) gr A n c E W hn hIX hl).mono ?_
        rintro e w2 ⟨A2, c2, rfl, hb2, own⟩
        have hI2 := own.intsN.1
        have hfar : ∀ a, A2 = some a → W.heap.size ≤ a.block ∧ a.block < w2.heap.size := fun a ha => by subst ha; exact own.lt rfl
        have bN := lat_alloc (Below.refl w2.heap.size w2) (.cells #[.int .i64 ph, .int .i64 gr, .slice A2 n c2] 24)
        have B5 := Blk.new (w := w2) (t := 24) (cs := #[.int .i64 ph, .int .i64 gr, .slice A2 n c2])
        have D0 := (B0.below hb2).below bN
        have D1 := (B1.below hb2).below bN
        have hI5 := hI2.grow bN
        have bz := bX.trans ((hb2.trans (bN.mono hb2.size)).mono bX.size)
        have hW2 := hb2.size
        have HN := Lib.hid hn
        clear hn
        have hne1 : w2.heap.size ≠ w.heap.size + 1 := by omega
        have hne2 : w.heap.size + 1 ≠ w2.heap.size := by omega
        have hne3 : w2.heap.size ≠ w.heap.size := by omega
        have o0 := D0.at 0 rfl
        have o1 := D0.at 1 rfl
        have o2 := D0.at 2 rfl
        obtain ⟨p0, p1, p2, f0, f1, f2⟩ := B5.three
        obtain ⟨r0, r1, r2, h0, h1, h2⟩ := D1.three
        have bM := lat_alloc (Below.refl w2.heap.size w2) (.cells #[.int .i64 ph, .int .i64 (gr + 1), .slice A2 n c2] 24)
        have E1 := (B1.below hb2).below bM
        have hI6 := hI2.grow bM
        have bz6 := bX.trans ((hb2.trans (bM.mono hb2.size)).mono bX.size)
        obtain ⟨v0, v1, v2, k0, k1, k2⟩ := E1.three
        go_wp2
        refine bodyPost_ret (results_cell rfl rfl (load_service (Blk.set3 E1 _ _ _))) rfl ?_
        exact ⟨A2, c2, rfl, below_set3 bz6 (by omega) _ _ _, hI6.set3 (fun a ha => by have := hfar a ha; omega) _ _ _, HN.out, fun a ha => by have := hfar a ha; omega⟩
      · have HG : Hid (grC true ph gr = 60) := Lib.hid (by unfold grC; rw [if_pos ⟨rfl, q⟩]; omega)
        clear q
        rw [HG.out]
        go_enter Try.func24, Try.ntmps24
        go_wp2_with fail
        have hltW := B1.lt
        generalize ((w.alloc (.cells #[.int .i64 ph, .int .i64 gr, .slice A n c] 24)).alloc (.cells #[.int .i64 0, .int .i64 0, .slice none 0 0] 24)) = W at *
        refine (rcopy_any (ph) gr A n c E W hn hIX hl).mono ?_
        rintro e w2 ⟨A2, c2, rfl, hb2, own⟩
        have hI2 := own.intsN.1
        have hfar : ∀ a, A2 = some a → W.heap.size ≤ a.block ∧ a.block < w2.heap.size := fun a ha => by subst ha; exact own.lt rfl
        have bN := lat_alloc (Below.refl w2.heap.size w2) (.cells #[.int .i64 ph, .int .i64 gr, .slice A2 n c2] 24)
        have B5 := Blk.new (w := w2) (t := 24) (cs := #[.int .i64 ph, .int .i64 gr, .slice A2 n c2])
        have D0 := (B0.below hb2).below bN
        have D1 := (B1.below hb2).below bN
        have hI5 := hI2.grow bN
        have bz := bX.trans ((hb2.trans (bN.mono hb2.size)).mono bX.size)
        have hW2 := hb2.size
        have HN := Lib.hid hn
        clear hn
        have hne1 : w2.heap.size ≠ w.heap.size + 1 := by omega
        have hne2 : w.heap.size + 1 ≠ w2.heap.size := by omega
        have hne3 : w2.heap.size ≠ w.heap.size := by omega
        have o0 := D0.at 0 rfl
        have o1 := D0.at 1 rfl
        have o2 := D0.at 2 rfl
        obtain ⟨p0, p1, p2, f0, f1, f2⟩ := B5.three
        obtain ⟨r0, r1, r2, h0, h1, h2⟩ := D1.three
        have bM := lat_alloc (Below.refl w2.heap.size w2) (.cells #[.int .i64 ph, .int .i64 60, .slice A2 n c2] 24)
        have E1 := (B1.below hb2).below bM
        have hI6 := hI2.grow bM
        have bz6 := bX.trans ((hb2.trans (bM.mono hb2.size)).mono bX.size)
        obtain ⟨v0, v1, v2, k0, k1, k2⟩ := E1.three
        go_wp2
        refine bodyPost_ret (results_cell rfl rfl (load_service (Blk.set3 E1 _ _ _))) rfl ?_
        exact ⟨A2, c2, rfl, below_set3 bz6 (by omega) _ _ _, hI6.set3 (fun a ha => by have := hfar a ha; omega) _ _ _, HN.out, fun a ha => by have := hfar a ha; omega⟩
set_option maxRecDepth 20000 in
set_option maxHeartbeats 2000000 in
theorem rnew_any (n : Nat) (w : World) (hl : n ≤ 1000) :
    Calls Try.prog 18 #[.int .i64 n] w fun e w' => SvI w (-1) 0 n (List.replicate n (-1)) e w' := by
  have bX := lat_alloc (lat_alloc (Below.refl w.heap.size w) (.cells #[.int .i64 0, .int .i64 0, .slice none 0 0] 24)) (.cells #[.int .i64 (-1), .int .i64 0, .slice none 0 0] 24)
  have B0 := Blk.alloc (Blk.new (w := w) (t := 24) (cs := #[.int .i64 0, .int .i64 0, .slice none 0 0])) (.cells #[.int .i64 (-1), .int .i64 0, .slice none 0 0] 24)
  have B1 := Blk.new (w := w.alloc (.cells #[.int .i64 0, .int .i64 0, .slice none 0 0] 24)) (t := 24) (cs := #[.int .i64 (-1), .int .i64 0, .slice none 0 0])
  rw [heap_size] at B1
  go_enter Try.func18, Try.ntmps18
  go_wp2_with fail
  have hW1 := B1.lt
  generalize ((w.alloc (.cells #[.int .i64 0, .int .i64 0, .slice none 0 0] 24)).alloc (.cells #[.int .i64 (-1), .int .i64 0, .slice none 0 0] 24)) = W at *
  go_loopw [4, 7] (fun v i wr => ∃ k : Nat, k ≤ n ∧ i = .int .i64 k ∧ Below w.heap.size w wr ∧ w.heap.size + 1 < wr.heap.size ∧ Blk wr w.heap.size 24 #[.int .i64 0, .int .i64 0, .slice none 0 0] ∧ Blk wr (w.heap.size + 1) 24 #[.int .i64 (-1), .int .i64 0, .slice none 0 0] ∧ Own .i64 3 wr (w.heap.size + 2) v (List.replicate k (-1))) (fun _ i _ => n - (intOf i).toNat)
  case atStart => exact ⟨0, by omega, rfl, bX, hW1, B0, B1, Own.nil_ _ _ _ _⟩
  case round =>
    obtain ⟨k, hk, rfl, hbr, hsz, C0, C1, own⟩ := hrel
    by_cases hlt : k < n
    · have hlt' : (k : Int) < n := by omega
      go_wp2_with (at_builtin; refine wpList_append_ints rfl (.tmp 9) (.tmp 10) _ rfl (w.heap.size + 2) 3 .i64 8 Try.underlying22 int_info _ (List.replicate k (-1)) rfl (own.alloc _) _ 1 [-1] 1 rfl rfl (ints_blk Blk.new) (by simp; omega) (by omega) (by rw [heap_size]; omega) ?_; intro v6 w6 own6 g6 a6; have D0 := (C0.alloc _).grown g6 (fun e => by have := (own.lt e).1; omega); have D1 := (C1.alloc _).grown g6 (fun e => by have := (own.lt e).1; omega); have hb6 := (lat_alloc hbr _).grown g6 (by rw [heap_size]; omega) (fun k e => by have := (own.lt e).1; omega); have hs6 := g6.size; rw [heap_size] at hs6)
      go_roundw
      case rel => exact ⟨k + 1, by omega, by go_num, hb6, by omega, D0, D1, by rw [List.replicate_succ']; exact own6⟩
      case measure => simp [intOf]; omega
    · have hkn : n = k := by omega
      obtain ⟨A2, c2, hv⟩ := own_len own (List.length_replicate)
      subst hv
      obtain ⟨s0, s1, s2, sf0, sf1, sf2⟩ := C1.three
      obtain ⟨u0, u1, u2, uf0, uf1, uf2⟩ := C0.three
      have hfar : ∀ a, A2 = some a → w.heap.size + 2 ≤ a.block := fun a ha => by subst ha; exact (own.lt rfl).1
      go_wp2
      refine bodyPost_ret (results_cell rfl rfl (load_service (Blk.set3 (C0.far (p := ⟨w.heap.size + 1, 2, none⟩) (by simp) _) _ _ _))) rfl ?_
      refine ⟨A2, c2, by rw [hkn], below_set3 (hbr.setCell (p := ⟨w.heap.size + 1, 2, none⟩) (by simp) _) (Nat.le_refl _) _ _ _, ?_, List.length_replicate, fun a ha => by have := hfar a ha; omega⟩
      rw [hkn]
      exact ((own.intsN.1).set1 (b := w.heap.size + 1) (fun a ha => by have := hfar a ha; omega) _).set3 (fun a ha => by have := hfar a ha; omega) _ _ _
set_option maxRecDepth 20000 in
set_option maxHeartbeats 2000000 in
theorem rend_any (ph gr : Int) (A : Option Addr) (n c : Nat) (E : List Int) (now : Int) (w : World) (hn : E.length = n) (hI : Ints .i64 w w.heap.size A E) (hl : n ≤ 1000000) :
    Calls Try.prog 20 #[.agg #[.int .i64 ph, .int .i64 gr, .slice A n c], .int .i64 now] w fun e w' => SvI w (-1) 0 n (endE ph gr E now) e w' := by
  have bX := lat_alloc (lat_alloc (Below.refl w.heap.size w) (.cells #[.int .i64 ph, .int .i64 gr, .slice A n c] 24)) (.cells #[.int .i64 0, .int .i64 0, .slice none 0 0] 24)
  have B0 := Blk.alloc (Blk.new (w := w) (t := 24) (cs := #[.int .i64 ph, .int .i64 gr, .slice A n c])) (.cells #[.int .i64 0, .int .i64 0, .slice none 0 0] 24)
  have B1 := Blk.new (w := w.alloc (.cells #[.int .i64 ph, .int .i64 gr, .slice A n c] 24)) (t := 24) (cs := #[.int .i64 0, .int .i64 0, .slice none 0 0])
  rw [heap_size] at B1
  have hIX := hI.grow bX
  go_enter Try.func20, Try.ntmps20
  go_wp2_with fail
  have hltW := B1.lt
  generalize ((w.alloc (.cells #[.int .i64 ph, .int .i64 gr, .slice A n c] 24)).alloc (.cells #[.int .i64 0, .int .i64 0, .slice none 0 0] 24)) = W at *
  have hnn := hn
  refine (rcopy_any (ph) gr A n c E W hn hIX hl).mono ?_
  rintro e w2 ⟨A2, c2, rfl, hb2, own⟩
  have hI2 := own.intsN.1
  have hfar : ∀ a, A2 = some a → W.heap.size ≤ a.block ∧ a.block < w2.heap.size := fun a ha => by subst ha; exact own.lt rfl
  have bN := lat_alloc (Below.refl w2.heap.size w2) (.cells #[.int .i64 ph, .int .i64 gr, .slice A2 n c2] 24)
  have B5 := Blk.new (w := w2) (t := 24) (cs := #[.int .i64 ph, .int .i64 gr, .slice A2 n c2])
  have D0 := (B0.below hb2).below bN
  have D1 := (B1.below hb2).below bN
  have hI5 := hI2.grow bN
  have bz := bX.trans ((hb2.trans (bN.mono hb2.size)).mono bX.size)
  have hW2 := hb2.size
  have HN := Lib.hid hn
  clear hn
  have hne1 : w2.heap.size ≠ w.heap.size + 1 := by omega
  have hne2 : w.heap.size + 1 ≠ w2.heap.size := by omega
  have hne3 : w2.heap.size ≠ w.heap.size := by omega
  have own5 := own.alloc (.cells #[.int .i64 ph, .int .i64 gr, .slice A2 n c2] 24)
  have hsz5 := B5.lt
  have hform := fun h => own.form (l := E) h
  by_cases q1 : 0 < gr
  · have z1 : decide (gr > 0) = true := by simpa using q1
    by_cases q2 : 0 ≤ ph
    · have z2 : decide (ph ≥ 0) = true := by simpa using q2
      obtain ⟨k, rfl⟩ := Int.eq_ofNat_of_zero_le q2
      by_cases q3 : k < n
      · have q3' : (k : Int) < n := by omega
        have z3 : decide ((k : Int) < (n : Int)) = true := by simpa using q3
        have HE : Hid (endE (k : Int) gr E now = E.set k now) := Lib.hid (by unfold endE; rw [if_pos ⟨q1, q2, by omega⟩]; rfl)
        obtain ⟨g2, cap2, hv, hgb, hgl⟩ := hform (by omega)
        injection hv with e1 e2 e3
        subst e1 e3
        have hkE : k < E.length := by omega
        clear q1 e2 hnn hform
        obtain ⟨oc, of⟩ := own5.cell hkE
        have own6 := (own.set hkE now).alloc (.cells #[.int .i64 (-1), .int .i64 0, .slice (some ⟨g2, 0, none⟩) n c2] 24)
        have bz6 := lat_alloc ((bX.trans (hb2.mono bX.size)).setCell (p := ⟨g2, k, none⟩) (show w.heap.size ≤ g2 by omega) (.int .i64 now)) (.cells #[.int .i64 (-1), .int .i64 0, .slice (some ⟨g2, 0, none⟩) n c2] 24)
        have G1 := ((B1.below hb2).far (p := ⟨g2, k, none⟩) (show w.heap.size + 1 ≠ g2 by omega) (.int .i64 now)).alloc (.cells #[.int .i64 (-1), .int .i64 0, .slice (some ⟨g2, 0, none⟩) n c2] 24)
        have hne4 : ¬ g2 = w2.heap.size := by omega
        have hne5 : ¬ w2.heap.size = g2 := by omega
        have hne6 : ¬ g2 = w.heap.size + 1 := by omega
        have hne7 : ¬ w.heap.size + 1 = g2 := by omega
        have hI6 := own6.intsN.1
        have HN6 := Lib.hid own6.intsN.2
        obtain ⟨v0, v1, v2, k0, k1, k2⟩ := G1.three
        have o0 := D0.at 0 rfl
        have o1 := D0.at 1 rfl
        have o2 := D0.at 2 rfl
        obtain ⟨p0, p1, p2, f0, f1, f2⟩ := B5.three
        obtain ⟨r0, r1, r2, h0, h1, h2⟩ := D1.three
        go_wp2
        refine bodyPost_ret (results_cell rfl rfl (load_service (Blk.set3 G1 _ _ _))) rfl ?_
        rw [HE.out]
        exact ⟨some ⟨g2, 0, none⟩, c2, rfl, below_set3 bz6 (by omega) _ _ _, hI6.set3 (fun a ha => by injection ha with ha; subst ha; exact hne6) _ _ _, HN6.out, fun a ha => by injection ha with ha; subst ha; show w.heap.size ≤ g2; omega⟩
      · have z3 : decide ((k : Int) < (n : Int)) = false := by simp; omega
        have HE : Hid (endE (k : Int) gr E now = E) := Lib.hid (by unfold endE; rw [if_neg (by omega)])
        clear q1 hnn hform
        have o0 := D0.at 0 rfl
        have o1 := D0.at 1 rfl
        have o2 := D0.at 2 rfl
        obtain ⟨p0, p1, p2, f0, f1, f2⟩ := B5.three
        obtain ⟨r0, r1, r2, h0, h1, h2⟩ := D1.three
        have bM := lat_alloc (Below.refl w2.heap.size w2) (.cells #[.int .i64 (-1), .int .i64 0, .slice A2 n c2] 24)
        have E1 := (B1.below hb2).below bM
        have hI6 := hI2.grow bM
        have bz6 := bX.trans ((hb2.trans (bM.mono hb2.size)).mono bX.size)
        obtain ⟨v0, v1, v2, k0, k1, k2⟩ := E1.three
        go_wp2
        refine bodyPost_ret (results_cell rfl rfl (load_service (Blk.set3 E1 _ _ _))) rfl ?_
        rw [HE.out]
        exact ⟨A2, c2, rfl, below_set3 bz6 (by omega) _ _ _, hI6.set3 (fun a ha => by have := hfar a ha; omega) _ _ _, HN.out, fun a ha => by have := hfar a ha; omega⟩
    · have z2 : decide (ph ≥ 0) = false := by simpa using q2
      have HE : Hid (endE ph gr E now = E) := Lib.hid (by unfold endE; rw [if_neg (by omega)])
      clear q1 hnn hform
      have o0 := D0.at 0 rfl
      have o1 := D0.at 1 rfl
      have o2 := D0.at 2 rfl
      obtain ⟨p0, p1, p2, f0, f1, f2⟩ := B5.three
      obtain ⟨r0, r1, r2, h0, h1, h2⟩ := D1.three
      have bM := lat_alloc (Below.refl w2.heap.size w2) (.cells #[.int .i64 (-1), .int .i64 0, .slice A2 n c2] 24)
      have E1 := (B1.below hb2).below bM
      have hI6 := hI2.grow bM
      have bz6 := bX.trans ((hb2.trans (bM.mono hb2.size)).mono bX.size)
      obtain ⟨v0, v1, v2, k0, k1, k2⟩ := E1.three
      go_wp2
      refine bodyPost_ret (results_cell rfl rfl (load_service (Blk.set3 E1 _ _ _))) rfl ?_
      rw [HE.out]
      exact ⟨A2, c2, rfl, below_set3 bz6 (by omega) _ _ _, hI6.set3 (fun a ha => by have := hfar a ha; omega) _ _ _, HN.out, fun a ha => by have := hfar a ha; omega⟩
  · have z1 : decide (gr > 0) = false := by simpa using q1
    have HE : Hid (endE ph gr E now = E) := Lib.hid (by unfold endE; rw [if_neg (by omega)])
    clear q1 hnn hform
    have o0 := D0.at 0 rfl
    have o1 := D0.at 1 rfl
    have o2 := D0.at 2 rfl
    obtain ⟨p0, p1, p2, f0, f1, f2⟩ := B5.three
    obtain ⟨r0, r1, r2, h0, h1, h2⟩ := D1.three
    have bM := lat_alloc (Below.refl w2.heap.size w2) (.cells #[.int .i64 (-1), .int .i64 0, .slice A2 n c2] 24)
    have E1 := (B1.below hb2).below bM
    have hI6 := hI2.grow bM
    have bz6 := bX.trans ((hb2.trans (bM.mono hb2.size)).mono bX.size)
    obtain ⟨v0, v1, v2, k0, k1, k2⟩ := E1.three
    go_wp2
    refine bodyPost_ret (results_cell rfl rfl (load_service (Blk.set3 E1 _ _ _))) rfl ?_
    rw [HE.out]
    exact ⟨A2, c2, rfl, below_set3 bz6 (by omega) _ _ _, hI6.set3 (fun a ha => by have := hfar a ha; omega) _ _ _, HN.out, fun a ha => by have := hfar a ha; omega⟩
end Go.Proofs.Ytikffoepndpfjaa
