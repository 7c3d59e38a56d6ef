/-
  The law VehicleLimits answers true: its walk. Conditions: none.
-/
import Derived.Test.YtgafianhlobcfaaAg
import Derived.Test.YtgafianhlobcfaaDr
namespace Go.Proofs.Ytgafianhlobcfaa
open Go.ChangeShapes Go.WideShapes Go.RowKit
set_option linter.unusedVariables false

theorem insV_len (v : Ve) (V : List Ve) : (insV v V).length = V.length + 1 := by rw [insV_eq, insF_len]
theorem register_n (A : Option Addr) (c : Nat) (V : List Ve) (v : Ve) (v0 v1 v4 v5 v6 v7 : Value) (cls : Int) (LA : Option Addr) (lc ln : Nat) (L : List Int) (hln : L.length = ln) (w : World) (hs : Vs w w.heap.size A V) (hw : VeW V) (hl : V.length ≤ 9223372036854775807) (hlc : V.length ≤ c) (hcm : c ≤ 9223372036854775807)
    (hL : Ints .i64 w w.heap.size LA L) (hLl : L.length ≤ 9223372036854775807) (hcls : cls < L.length) (hvi : -9223372036854775808 ≤ v.id ∧ v.id ≤ 9223372036854775807) (hvc : -9223372036854775808 ≤ v.cl ∧ v.cl ≤ 9223372036854775807) :
    Calls Try.prog 17 #[.slice A V.length c, .agg #[v0, v1, .int .i64 cls, .slice LA ln lc, v4, v5, v6, v7], .agg #[.int .i64 v.id, .int .i64 v.cl]] w fun e w' => ∃ s, e = .returned (.tuple #[s, .int .i64 (regE V cls L v)]) ∧ Below w.heap.size w w' ∧
      (regE V cls L v = 0 → ∃ g, s = .slice (some ⟨g, 0, none⟩) (V.length + 1) (V.length + 1) ∧ w.heap.size ≤ g ∧ Blk w' g 25 ((insV v V).flatMap Ve.cells).toArray) ∧ (regE V cls L v ≠ 0 → s = .slice none 0 0) := by
  subst hln
  exact register_any A c V v v0 v1 v4 v5 v6 v7 cls LA lc L w hs hw hl hlc hcm hL hLl hcls hvi hvc
/-- A list that keeps the limits. -/
def Good (cls : Int) (L : List Int) (g : Nat) (s : Value) (w : World) : Prop := ∃ (V : List Ve) (A : Option Addr) (c : Nat), s = .slice A V.length c ∧ LimOk cls L V ∧ V.length ≤ c ∧ c ≤ 9223372036854775807 ∧ Vs w w.heap.size A V ∧ (∀ a, A = some a → a.block ≠ g)
theorem Good.gs {cls : Int} {L : List Int} {g : Nat} {s : Value} {w w' : World} (h : Good cls L g s w) (hb : Gs g w w') : Good cls L g s w' := by
  obtain ⟨V, A, c, h1, h2, h3, h4, h5, h6⟩ := h
  exact ⟨V, A, c, h1, h2, h3, h4, h5.gr hb.gr h6, h6⟩
theorem Good.nil {cls : Int} {L : List Int} {g : Nat} {w : World} (hL : ∀ x ∈ L, 0 ≤ x) (hl : L.length = 4) : Good cls L g (.slice none 0 0) w :=
  ⟨[], none, 0, rfl, LimOk.nil hL hl, Nat.le_refl _, by omega, Vs.nil, fun a ha => by cases ha⟩
/-- What a row of the call's own holds, as a list. -/
theorem row_vs {w : World} {base : Nat} {v : Value} {V : List Ve} {n : Nat} (hn : V.length = n) (h : w.ownsRow base 25 2 v n (V.flatMap Ve.cells)) : ∃ A c, v = .slice A V.length c ∧ V.length ≤ c ∧ c ≤ 9223372036854775807 ∧ Vs w w.heap.size A V ∧ (∀ a, A = some a → base ≤ a.block) := by
  subst hn
  have h0 := h
  obtain ⟨A, c, hv, hc, hb, hcell⟩ := row_get (f := Ve.cells) (m := 2) (fun _ => rfl) h
  refine ⟨A, c, hv, hc, ?_, fun h0 => ?_, hb⟩
  · obtain ⟨_, ⟨h1, _⟩ | ⟨g, cap, cur, h1, _, _, _, hm, _⟩⟩ := h0
    · rw [h1] at hv; injection hv with _ _ e; omega
    · rw [h1] at hv; injection hv with _ _ e; subst e; unfold maxLen at hm; omega
  · obtain ⟨b, hA, hB, hcc⟩ := hcell h0
    refine ⟨b, 0, hA, hB, fun i hi => ?_⟩
    have hx := fun j hj => hcc i _ (veAt_get hi) j hj
    rw [Nat.zero_add]
    exact ⟨hx 0 (by omega), hx 1 (by omega)⟩
set_option maxRecDepth 20000 in
set_option maxHeartbeats 4000000 in
theorem limitslaw_any (D : Option Addr) (d : Nat) (l : List Int) (n : Int) (w : World) (hs : Ints .i64 w w.heap.size D l) (hn : Nums l) (hl : l.length ≤ 9223372036854775807) (n0 : -9223372036854775808 ≤ n) (n1 : n ≤ 9223372036854775807) :
    Calls Try.prog 5 #[.slice D l.length d, .int .i64 n] w fun e w' => e = .returned (.bool true) ∧ Below w.heap.size w w' := by
  by_cases hfew : l.length ≤ 300
  · have zf : decide (l.length ≤ 300) = true := by simpa using hfew
    have HF := Lib.hid zf
    clear zf
    go_enter Try.func5, Try.ntmps5
    go_wp2_with fail
    refine (few_any _ _ _ _).mono ?_; rintro e w' ⟨rfl, hw'⟩; subst hw'; rw [HF.out]
    go_wp2_with fail
    refine (agency_any n w n0 n1).mono ?_
    rintro e w1 ⟨hb1, cls, gL, L, rfl, c0, c1, hLl, hLb, hgl, hI⟩
    have hL0 : ∀ x ∈ L, 0 ≤ x := fun x hx => (hLb x hx).1
    go_wp2_with fail
    refine (new_ok D l d w1 (hs.grow hb1) hn hl).mono ?_
    rintro e w2 ⟨rfl, hdk0, hb2, hlt2⟩
    have hgLlt : gL < w1.heap.size := by
      obtain ⟨b, off, hA, hB, _⟩ := hI (by omega)
      simp only [Option.some.injEq, Addr.mk.injEq] at hA
      omega
    have hJ := hI.grow hb2
    clear hI
    have hgw := hb1.size
    have hB2 := hb1.trans (hb2.mono hb1.size)
    generalize w1.heap.size = g at *
    go_wp2_with fail
    have BA0 := Blk.new (w := w2) (t := 29) (cs := #[.slice none 0 0, .int .i64 0, .int .i64 cls, .slice (some ⟨gL, 0, none⟩) 4 4, .int .i64 0, .int .i64 0, .int .i64 0, .int .i64 0])
    have bA := lat_alloc (Below.refl w2.heap.size w2) (.cells #[.slice none 0 0, .int .i64 0, .int .i64 cls, .slice (some ⟨gL, 0, none⟩) 4 4, .int .i64 0, .int .i64 0, .int .i64 0, .int .i64 0] 29)
    have hIA := hJ.grow bA
    have hdkA := hdk0.below bA
    have hBA := hB2.trans (bA.mono hB2.size)
    have hneA : w2.heap.size ≠ g := by omega
    clear hJ hdk0 bA hb2 hb1
    generalize w2.alloc (.cells #[.slice none 0 0, .int .i64 0, .int .i64 cls, .slice (some ⟨gL, 0, none⟩) 4 4, .int .i64 0, .int .i64 0, .int .i64 0, .int .i64 0] 29) = W at *
    generalize w2.heap.size = gA at *
    have hfarL : ∀ a : Addr, (some ⟨gL, 0, none⟩ : Option Addr) = some a → a.block ≠ g := fun a ha => by injection ha with ha; subst ha; show gL ≠ g; omega
    obtain ⟨r0, hdr0⟩ := hdkA.left
    go_loopw [7] (fun v wr => ∃ (V : List Ve) (A : Option Addr) (c r : Nat), v = .slice A V.length c ∧ LimOk cls L V ∧ V.length ≤ c ∧ c ≤ 9223372036854775807 ∧ Vs wr wr.heap.size A V ∧ (∀ a, A = some a → a.block ≠ g) ∧ Gs g W wr ∧ DeckR wr g r) (fun _ wr => restW wr g)
    case atStart => exact ⟨[], none, 0, r0, rfl, LimOk.nil hL0 hLl, by simp, by omega, Vs.nil, (fun a ha => by cases ha), Gs.refl _, hdr0⟩
    case round =>
      obtain ⟨V, A, c, r, rfl, hLim, hlc, hcm, hsV, hfar, hG, hdr⟩ := hrel
      have hlen8 := hLim.len
      go_wp2_with fail
      refine (left_r g r _ hdr).mono ?_
      rintro e w3 ⟨rfl, hb3⟩
      have hd3 := hdr.below hb3
      have hG3 := hG.trans (Gs.of_below hb3)
      have hs3 := hsV.grow hb3
      by_cases hr0 : 0 < r
      · have zr : decide (0 < r) = true := by simpa using hr0
        rw [zr]
        clear zr
        go_wp2_with fail
        refine (next_t g r 4 w3 hd3 (by omega) (by omega)).mono ?_
        rintro e w4 ⟨hg4, hd2, x, x0, x1, rfl⟩
        have hG2 := hG3.trans hg4
        have hs2 := hs3.gr hg4.gr hfar
        have BA := hG2.blk BA0 hneA
        have hI2 := hIA.gr hG2.gr hfarL
        have hdk := hd2.ok
        clear hs3 hsV hG hG3 hg4
        by_cases hx : x = 3
        · subst hx
          go_wp2_with fail
          refine (next_t g (r - 1) 12 w4 hd2 (by omega) (by omega)).mono ?_
          rintro e w5 ⟨hg5, hd5, y, y0, y1, rfl⟩
          have hs5 := hs2.gr hg5.gr hfar
          have hG5 := hG2.trans hg5
          go_wp2_with fail
          have hlt5 := hd5.lt
          refine (remove_any A c V y w5 hs5 (veW_valid (Int.le_refl 0) hLim.valid) (by omega) hlc hcm).mono ?_
          rintro e w6 ⟨s, rfl, hb6, ho, hno⟩
          have hd6 := hd5.below hb6
          have hG6 := hG5.trans (Gs.of_below hb6)
          by_cases hE : remE V y = 0
          · have hrow := ho hE
            have hlen : (remV V y).length = V.length - 1 := by
              have hbd := idxF_bd y V 0
              unfold remE at hE
              split at hE
              · omega
              · split at hE
                · omega
                · exact delN_len (V := V) (by omega)
            have hLd : LimOk cls L (remV V y) := hLim.del _
            obtain ⟨A6, c6, rfl, hlc6, hcm6, hs6, hf6⟩ := row_vs hlen hrow
            rw [hE]
            clear hno ho hrow hlen hE
            go_wp2
            go_roundw
            case rel => exact ⟨remV V y, A6, c6, r - 1 - 1, rfl, hLd, hlc6, hcm6, hs6, (fun a ha => by have := hf6 a ha; omega), hG6, hd6⟩
            case measure =>
              have e1 := hd6.rest
              have e2 := hdr.rest
              show restW _ _ < restW _ _
              omega
          · have zE : (remE V y == 0) = false := by simpa using hE
            have hn6 := hno hE
            subst hn6
            clear hno ho hE
            go_wp2
            go_roundw
            case rel => exact ⟨V, A, c, r - 1 - 1, rfl, hLim, hlc, hcm, hs5.grow hb6, hfar, hG6, hd6⟩
            case measure =>
              have e1 := hd6.rest
              have e2 := hdr.rest
              show restW _ _ < restW _ _
              omega
        · have zx : (x == 3) = false := by simpa using hx
          clear hx
          go_wp2_with fail
          refine wp_region_pre (R := (Gs g)) 13 84 [fun v _ => v = .slice A V.length c, fun v _ => v = .agg #[.slice none 0 0, .int .i64 0, .int .i64 cls, .slice (some ⟨gL, 0, none⟩) 4 4, .int .i64 0, .int .i64 0, .int .i64 0, .int .i64 0], fun v _ => v = .pointer (some ⟨g, 0, none⟩), fun v w => ∃ a : Int, v = .int .i64 a ∧ 0 ≤ a ∧ a < 12, fun v _ => v = .pointer (some ⟨g, 0, none⟩), fun v w => ∃ a : Int, v = .int .i64 a ∧ 0 ≤ a ∧ a < 4, fun v w => ∃ a b : Int, v = .agg #[.int .i64 a, .int .i64 b] ∧ 0 ≤ a ∧ a < 12 ∧ 0 ≤ b ∧ b < 4, fun v w => ∃ s E, v = .tuple #[s, .int .i64 E] ∧ Good cls L g s w, fun v w => ∃ s E, v = .tuple #[s, .int .i64 E] ∧ Good cls L g s w, fun v w => Good cls L g (v) w, fun v w => ∃ E : Int, v = .int .i64 E, fun v w => Good cls L g (v) w, fun v w => ∃ E : Int, v = .int .i64 E] (Gs.trans) (Gs.drew) (by kernel_rfl) (fun _ _ d _ _ h => by cases d <;> exact h) rfl (by kernel_rfl) (stay_cons (stays_v _) (stay_cons (stays_v _) (stay_cons (stays_v _) (stay_cons (fun v _ _ h _ => h) (stay_cons (stays_v _) (stay_cons (fun v _ _ h _ => h) (stay_cons (fun v _ _ h _ => h) (stay_cons (fun v w w1 h hb => by obtain ⟨s, E, h1, h2⟩ := h; exact ⟨s, E, h1, h2.gs hb⟩) (stay_cons (fun v w w1 h hb => by obtain ⟨s, E, h1, h2⟩ := h; exact ⟨s, E, h1, h2.gs hb⟩) (stay_cons (fun v w w1 h hb => Good.gs h hb) (stay_cons (fun v _ _ h _ => h) (stay_cons (fun v w w1 h hb => Good.gs h hb) (stay_cons (fun v _ _ h _ => h) (stay_nil)))))))))))))) ?_ ?_
          · simp only [List.take_succ_cons, List.take_zero]
            refine steps_cons (Gs.refl) (fun ev xw hb hc hf hfr hd hr => ?_) ?_
            · have e7 : ev (.tmp 7) = .slice A V.length c := hfr 7 (by kernel_rfl)
              clear hfr hd
              show OpOk _ _ ev xw fun v w' => (Gs g) xw w' ∧ (v = .slice A V.length c)
              refine opOk_hid (fun Rp HR => ?_)
              unfold OpOk
              go_simp
              rw [HR.out]
              exact ⟨hr, rfl⟩
            refine steps_cons (Gs.refl) (fun ev xw hb hc hf hfr hd hr => ?_) ?_
            · have e5 : ev (.tmp 5) = .pointer (some ⟨gA, 0, none⟩) := hfr 5 (by kernel_rfl)
              clear hfr hd
              have q0 := (hb.blk BA hneA).at 0 rfl
              have q1 := (hb.blk BA hneA).at 1 rfl
              have q2 := (hb.blk BA hneA).at 2 rfl
              have q3 := (hb.blk BA hneA).at 3 rfl
              have q4 := (hb.blk BA hneA).at 4 rfl
              have q5 := (hb.blk BA hneA).at 5 rfl
              have q6 := (hb.blk BA hneA).at 6 rfl
              have q7 := (hb.blk BA hneA).at 7 rfl
              show OpOk _ _ ev xw fun v w' => (Gs g) xw w' ∧ (v = .agg #[.slice none 0 0, .int .i64 0, .int .i64 cls, .slice (some ⟨gL, 0, none⟩) 4 4, .int .i64 0, .int .i64 0, .int .i64 0, .int .i64 0])
              refine opOk_hid (fun Rp HR => ?_)
              unfold OpOk
              go_simp
              rw [HR.out]
              exact ⟨hr, rfl⟩
            refine steps_cons (Gs.refl) (fun ev xw hb hc hf hfr hd hr => ?_) ?_
            · have e6 : ev (.tmp 6) = .pointer (some ⟨g, 0, none⟩) := hfr 6 (by kernel_rfl)
              clear hfr hd
              show OpOk _ _ ev xw fun v w' => (Gs g) xw w' ∧ (v = .pointer (some ⟨g, 0, none⟩))
              refine opOk_hid (fun Rp HR => ?_)
              unfold OpOk
              go_simp
              rw [HR.out]
              exact ⟨hr, rfl⟩
            refine steps_cons (Gs.refl) (fun ev xw hb hc hf hfr hd hr => ?_) ?_
            · have e40 : ev (.tmp 40) = .pointer (some ⟨g, 0, none⟩) := hd 2 40 (by kernel_rfl)
              clear hfr hd
              show OpOk _ _ ev xw fun v w' => (Gs g) xw w' ∧ (∃ a : Int, v = .int .i64 a ∧ 0 ≤ a ∧ a < 12)
              refine opOk_hid (fun Rp HR => ?_)
              unfold OpOk
              go_simp
              refine (next_s g 12 xw (hb.gr.2 hdk) (by omega) (by omega)).mono ?_
              rintro e w'' ⟨hw, _, x, x0, x1, rfl⟩
              refine ⟨_, rfl, ?_⟩
              rw [HR.out]
              exact ⟨hw, x, rfl, x0, x1⟩
            refine steps_cons (Gs.refl) (fun ev xw hb hc hf hfr hd hr => ?_) ?_
            · have e6 : ev (.tmp 6) = .pointer (some ⟨g, 0, none⟩) := hfr 6 (by kernel_rfl)
              clear hfr hd
              show OpOk _ _ ev xw fun v w' => (Gs g) xw w' ∧ (v = .pointer (some ⟨g, 0, none⟩))
              refine opOk_hid (fun Rp HR => ?_)
              unfold OpOk
              go_simp
              rw [HR.out]
              exact ⟨hr, rfl⟩
            refine steps_cons (Gs.refl) (fun ev xw hb hc hf hfr hd hr => ?_) ?_
            · have e42 : ev (.tmp 42) = .pointer (some ⟨g, 0, none⟩) := hd 4 42 (by kernel_rfl)
              clear hfr hd
              show OpOk _ _ ev xw fun v w' => (Gs g) xw w' ∧ (∃ a : Int, v = .int .i64 a ∧ 0 ≤ a ∧ a < 4)
              refine opOk_hid (fun Rp HR => ?_)
              unfold OpOk
              go_simp
              refine (next_s g 4 xw (hb.gr.2 hdk) (by omega) (by omega)).mono ?_
              rintro e w'' ⟨hw, _, x, x0, x1, rfl⟩
              refine ⟨_, rfl, ?_⟩
              rw [HR.out]
              exact ⟨hw, x, rfl, x0, x1⟩
            refine steps_cons (Gs.refl) (fun ev xw hb hc hf hfr hd hr => ?_) ?_
            · obtain ⟨a41, e41, l41, h41⟩ : ∃ a : Int, ev (.tmp 41) = .int .i64 a ∧ 0 ≤ a ∧ a < 12 := hd 3 41 (by kernel_rfl)
              obtain ⟨a43, e43, l43, h43⟩ : ∃ a : Int, ev (.tmp 43) = .int .i64 a ∧ 0 ≤ a ∧ a < 4 := hd 5 43 (by kernel_rfl)
              clear hfr hd
              show OpOk _ _ ev xw fun v w' => (Gs g) xw w' ∧ (∃ a b : Int, v = .agg #[.int .i64 a, .int .i64 b] ∧ 0 ≤ a ∧ a < 12 ∧ 0 ≤ b ∧ b < 4)
              refine opOk_hid (fun Rp HR => ?_)
              unfold OpOk
              go_simp
              rw [HR.out]
              exact ⟨hr, _, _, rfl, l41, h41, l43, h43⟩
            refine steps_cons (Gs.refl) (fun ev xw hb hc hf hfr hd hr => ?_) ?_
            · have e38 : ev (.tmp 38) = .slice A V.length c := hd 0 38 (by kernel_rfl)
              have e39 : ev (.tmp 39) = .agg #[.slice none 0 0, .int .i64 0, .int .i64 cls, .slice (some ⟨gL, 0, none⟩) 4 4, .int .i64 0, .int .i64 0, .int .i64 0, .int .i64 0] := hd 1 39 (by kernel_rfl)
              obtain ⟨a44, b44, e44, l44, h44, m44, n44⟩ : ∃ a b : Int, ev (.tmp 44) = .agg #[.int .i64 a, .int .i64 b] ∧ 0 ≤ a ∧ a < 12 ∧ 0 ≤ b ∧ b < 4 := hd 6 44 (by kernel_rfl)
              clear hfr hd
              show OpOk _ _ ev xw fun v w' => (Gs g) xw w' ∧ (∃ s E, v = .tuple #[s, .int .i64 E] ∧ Good cls L g s w')
              refine opOk_hid (fun Rp HR => ?_)
              unfold OpOk
              go_simp
              have hsx := hs2.gr hb.gr hfar
              have hIx := hI2.gr hb.gr hfarL
              have hgx := (hb.gr.2 hdk).lt
              refine (register_n A c V ⟨a44, b44⟩ _ _ _ _ _ _ cls _ _ 4 L hLl xw hsx (veW_valid (Int.le_refl 0) hLim.valid) (by omega) hlc hcm hIx (by omega) (by omega) (And.intro (show (-9223372036854775808 : Int) ≤ a44 by omega) (show a44 ≤ (9223372036854775807 : Int) by omega)) (And.intro (show (-9223372036854775808 : Int) ≤ b44 by omega) (show b44 ≤ (9223372036854775807 : Int) by omega))).mono ?_
              rintro e w'' ⟨s, rfl, hw, h1, h2⟩
              refine ⟨_, rfl, ?_⟩
              rw [HR.out]
              refine ⟨Gs.of_below hw, s, _, rfl, ?_⟩
              by_cases hz : regE V cls L ⟨a44, b44⟩ = 0
              · obtain ⟨gn, rfl, hgn, hB⟩ := h1 hz
                exact ⟨insV ⟨a44, b44⟩ V, some ⟨gn, 0, none⟩, V.length + 1, by rw [insV_len], hLim.ins (by omega) hz, by rw [insV_len]; omega, by omega, blk_vs hB, fun a ha => by injection ha with ha; subst ha; show gn ≠ g; omega⟩
              · rw [h2 hz]; exact Good.nil hL0 hLl
            refine steps_cons (Gs.refl) (fun ev xw hb hc hf hfr hd hr => ?_) ?_
            · obtain ⟨s45, E45, e45, G45⟩ : ∃ s E, ev (.tmp 45) = .tuple #[s, .int .i64 E] ∧ Good cls L g s xw := hd 7 45 (by kernel_rfl)
              clear hfr hd
              show OpOk _ _ ev xw fun v w' => (Gs g) xw w' ∧ (∃ s E, v = .tuple #[s, .int .i64 E] ∧ Good cls L g s w')
              refine opOk_hid (fun Rp HR => ?_)
              unfold OpOk
              go_simp
              rw [HR.out]
              exact ⟨hr, s45, E45, rfl, G45⟩
            refine steps_cons (Gs.refl) (fun ev xw hb hc hf hfr hd hr => ?_) ?_
            · obtain ⟨s37, E37, e37, G37⟩ : ∃ s E, ev (.tmp 37) = .tuple #[s, .int .i64 E] ∧ Good cls L g s xw := hd 8 37 (by kernel_rfl)
              clear hfr hd
              show OpOk _ _ ev xw fun v w' => (Gs g) xw w' ∧ (Good cls L g (v) w')
              refine opOk_hid (fun Rp HR => ?_)
              unfold OpOk
              go_simp
              rw [HR.out]
              exact ⟨hr, G37⟩
            refine steps_cons (Gs.refl) (fun ev xw hb hc hf hfr hd hr => ?_) ?_
            · obtain ⟨s37, E37, e37, G37⟩ : ∃ s E, ev (.tmp 37) = .tuple #[s, .int .i64 E] ∧ Good cls L g s xw := hd 8 37 (by kernel_rfl)
              clear hfr hd
              show OpOk _ _ ev xw fun v w' => (Gs g) xw w' ∧ (∃ E : Int, v = .int .i64 E)
              refine opOk_hid (fun Rp HR => ?_)
              unfold OpOk
              go_simp
              rw [HR.out]
              exact ⟨hr, _, rfl⟩
            refine steps_cons (Gs.refl) (fun ev xw hb hc hf hfr hd hr => ?_) ?_
            · obtain G46 : Good cls L g (ev (.tmp 46)) xw := hd 9 46 (by kernel_rfl)
              clear hfr hd
              show OpOk _ _ ev xw fun v w' => (Gs g) xw w' ∧ (Good cls L g (v) w')
              refine opOk_hid (fun Rp HR => ?_)
              unfold OpOk
              go_simp
              rw [HR.out]
              exact ⟨hr, G46⟩
            refine steps_cons (Gs.refl) (fun ev xw hb hc hf hfr hd hr => ?_) ?_
            · obtain ⟨E47, e47⟩ : ∃ E : Int, ev (.tmp 47) = .int .i64 E := hd 10 47 (by kernel_rfl)
              clear hfr hd
              show OpOk _ _ ev xw fun v w' => (Gs g) xw w' ∧ (∃ E : Int, v = .int .i64 E)
              refine opOk_hid (fun Rp HR => ?_)
              unfold OpOk
              go_simp
              rw [HR.out]
              exact ⟨hr, _, rfl⟩
            exact steps_nil
          · intro vs W5 hb5 hk
            have k10 : Good cls L g (vs 11) W5 := hk 11 (by omega)
            obtain ⟨E, k11⟩ : ∃ E : Int, vs 12 = .int .i64 E := hk 12 (by omega)
            clear hk
            simp only [List.take_succ_cons, List.take_zero, List.drop_succ_cons, List.drop_zero, putAll, Act.put, List.setIfInBounds_toArray, List.set_cons_zero, List.set_cons_succ, k11, Nat.reduceAdd, Nat.reduceSub]
            generalize vs 11 = s10 at *
            have hs5 := hs2.gr hb5.gr hfar
            have B5 := hb5.blk BA hneA
            have I5 := hI2.gr hb5.gr hfarL
            have hG5 := hG2.trans hb5
            have D5 : ∃ r', r' ≤ r - 1 ∧ DeckR W5 g r' := hb5.2 _ hd2
            by_cases hE : E = 0
            · subst hE
              obtain ⟨V2, A2, c2, rfl, hLim2, hlc2, hcm2, hsV2, hfar2⟩ := k10
              go_wp2
              go_loopw [51] (fun i wr => ∃ k : Nat, k ≤ 4 ∧ i = .int .i64 k ∧ Below W5.heap.size W5 wr) (fun i _ => 4 - (intOf i).toNat)
              case atStart => exact ⟨0, by omega, rfl, Below.refl _ _⟩
              case round =>
                obtain ⟨k, hk, rfl, hbq⟩ := hrel
                have hsq := (hsV2).grow hbq
                have BQ := B5.below hbq
                have IQ := I5.grow hbq
                have hlen8 := (hLim2).len
                by_cases hlt : k < 4
                · have hlt' : (k : Int) < 4 := by omega
                  have hck := (hLim2).lim k hlt
                  go_wp2_with fail
                  refine (count_any A2 c2 V2 k _ hsq (by omega)).mono ?_
                  rintro e w7 ⟨rfl, hb7⟩
                  have BR := BQ.below hb7
                  obtain ⟨bb, oo, hAe, _, hcell⟩ := (IQ.grow hb7).sub (show k < L.length by omega)
                  simp only [Option.some.injEq, Addr.mk.injEq] at hAe
                  obtain ⟨rfl, rfl, _⟩ := hAe
                  rw [Nat.zero_add] at hcell
                  have r2 := BR.at 2 rfl
                  have r3 := BR.at 3 rfl
                  have hcb := cntF_bd k (V2)
                  generalize cntF k (V2) = x at *
                  have z1 : decide (x > at_ L k) = false := by simp; omega
                  by_cases hcc : cls < k
                  · have hx0 := hck.2 hcc
                    have z2 : decide ((k : Int) > cls) = true := by simpa using hcc
                    have z3 : decide (x > 0) = false := by simp; omega
                    clear hck hcb hx0
                    go_wp2
                    go_roundw
                    case rel => exact ⟨k + 1, by omega, by go_num, hbq.trans (hb7.mono hbq.size)⟩
                    case measure => simp [intOf]; omega
                  · have z2 : decide ((k : Int) > cls) = false := by simp; omega
                    clear hck hcb
                    go_wp2
                    go_roundw
                    case rel => exact ⟨k + 1, by omega, by go_num, hbq.trans (hb7.mono hbq.size)⟩
                    case measure => simp [intOf]; omega
                · go_wp2_with fail
                  refine (valid_c A2 c2 V2 _ hsq (veW_valid (Int.le_refl 0) (hLim2).valid) (by omega) (hLim2).b).mono ?_
                  rintro e w7 ⟨rfl, hb7⟩
                  have hb57 := hbq.trans (hb7.mono hbq.size)
                  obtain ⟨r7, hr7, hd7⟩ := D5
                  have hd8 := hd7.below hb57
                  go_wp2
                  go_roundw
                  case rel => exact ⟨V2, A2, c2, r7, rfl, hLim2, hlc2, hcm2, (hsV2).grow hb57, hfar2, hG5.trans (Gs.of_below hb57), hd8⟩
                  case measure =>
                    have e1 := hd8.rest
                    have e2 := hdr.rest
                    show restW _ _ < restW _ _
                    omega
            · have zE : (E == 0) = false := by simpa using hE
              clear hE
              go_wp2
              go_loopw [51] (fun i wr => ∃ k : Nat, k ≤ 4 ∧ i = .int .i64 k ∧ Below W5.heap.size W5 wr) (fun i _ => 4 - (intOf i).toNat)
              case atStart => exact ⟨0, by omega, rfl, Below.refl _ _⟩
              case round =>
                obtain ⟨k, hk, rfl, hbq⟩ := hrel
                have hsq := (hs5).grow hbq
                have BQ := B5.below hbq
                have IQ := I5.grow hbq
                have hlen8 := (hLim).len
                by_cases hlt : k < 4
                · have hlt' : (k : Int) < 4 := by omega
                  have hck := (hLim).lim k hlt
                  go_wp2_with fail
                  refine (count_any A c V k _ hsq (by omega)).mono ?_
                  rintro e w7 ⟨rfl, hb7⟩
                  have BR := BQ.below hb7
                  obtain ⟨bb, oo, hAe, _, hcell⟩ := (IQ.grow hb7).sub (show k < L.length by omega)
                  simp only [Option.some.injEq, Addr.mk.injEq] at hAe
                  obtain ⟨rfl, rfl, _⟩ := hAe
                  rw [Nat.zero_add] at hcell
                  have r2 := BR.at 2 rfl
                  have r3 := BR.at 3 rfl
                  have hcb := cntF_bd k (V)
                  generalize cntF k (V) = x at *
                  have z1 : decide (x > at_ L k) = false := by simp; omega
                  by_cases hcc : cls < k
                  · have hx0 := hck.2 hcc
                    have z2 : decide ((k : Int) > cls) = true := by simpa using hcc
                    have z3 : decide (x > 0) = false := by simp; omega
                    clear hck hcb hx0
                    go_wp2
                    go_roundw
                    case rel => exact ⟨k + 1, by omega, by go_num, hbq.trans (hb7.mono hbq.size)⟩
                    case measure => simp [intOf]; omega
                  · have z2 : decide ((k : Int) > cls) = false := by simp; omega
                    clear hck hcb
                    go_wp2
                    go_roundw
                    case rel => exact ⟨k + 1, by omega, by go_num, hbq.trans (hb7.mono hbq.size)⟩
                    case measure => simp [intOf]; omega
                · go_wp2_with fail
                  refine (valid_c A c V _ hsq (veW_valid (Int.le_refl 0) (hLim).valid) (by omega) (hLim).b).mono ?_
                  rintro e w7 ⟨rfl, hb7⟩
                  have hb57 := hbq.trans (hb7.mono hbq.size)
                  obtain ⟨r7, hr7, hd7⟩ := D5
                  have hd8 := hd7.below hb57
                  go_wp2
                  go_roundw
                  case rel => exact ⟨V, A, c, r7, rfl, hLim, hlc, hcm, (hs5).grow hb57, hfar, hG5.trans (Gs.of_below hb57), hd8⟩
                  case measure =>
                    have e1 := hd8.rest
                    have e2 := hdr.rest
                    show restW _ _ < restW _ _
                    omega
      · have zr : decide (0 < r) = false := by simpa using hr0
        rw [zr]
        clear zr
        go_wp2_with fail
        refine (awake_any w3).mono ?_
        rintro e w4 ⟨rfl, hw4⟩
        have hBz := hG3.base hBA hgw
        go_wp2
        go_ret
        exact ⟨rfl, hBz.trans (hw4.mono hBz.size)⟩
  · have zf : decide (l.length ≤ 300) = false := by simpa using hfew
    have HF := Lib.hid zf
    clear zf
    go_enter Try.func5, Try.ntmps5
    go_wp2_with fail
    refine (few_any _ _ _ _).mono ?_; rintro e w' ⟨rfl, hw'⟩; subst hw'; rw [HF.out]
    go_wp2_with fail
    refine (awake_any w).mono ?_
    rintro e w4 ⟨rfl, hw4⟩
    go_wp2
    go_ret
    exact ⟨rfl, hw4⟩
end Go.Proofs.Ytgafianhlobcfaa
