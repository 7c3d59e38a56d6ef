/-
  A service that is drawn from a deck. Conditions: few phases, a small tick.
-/
import Derived.Test.YtikffoepndpfjaaMg
import Derived.Test.YtikffoepndpfjaaDk
import Derived.Test.YtikffoepndpfjaaG
import Derived.Test.YtikffoepndpfjaaRb
namespace Go.Proofs.Ytikffoepndpfjaa
open Go.ChangeShapes Go.WideShapes Go.RowKit
set_option linter.unusedVariables false

theorem int_info : (Try.prog.info? 3).map (fun i => (i.zero, i.size, i.bytes)) = some (some (.int .i64 0), 1, 8) := by kernel_rfl
theorem ints_blk {k : IntKind} {w : World} {b : Nat} {t : TypeId} {x : Int} (h : Blk w b t #[.int k x]) : Ints k w w.heap.size (some ⟨b, 0, none⟩) [x] := fun _ =>
  ⟨b, 0, rfl, h.lt, fun i hi => by simp at hi; subst hi; exact h.at 0 rfl⟩
theorem own_len {k : IntKind} {e : TypeId} {w : World} {base n : Nat} {v : Value} {l : List Int} (h : Own k e w base v l) (hn : l.length = n) : ∃ A c, v = .slice A n c := by
  obtain ⟨A, c, hv, _⟩ := h.ints
  exact ⟨A, c, by rw [hv, hn]⟩
theorem Own.gr {g : Nat} {k : IntKind} {e : TypeId} {w w' : World} {base : Nat} {v : Value} {l : List Int} (h : Own k e w base v l) (hg : Gr g w w') (hb : g < base) : Own k e w' base v l :=
  h.block fun b hv => hg.1.block b (h.lt hv).2 (fun e => by have := (h.lt hv).1; injection e with e; omega)
theorem Own.grownSet {k : IntKind} {e : TypeId} {w : World} {base g i : Nat} {v : Value} {l : List Int} (h : Own k e w base v l) (u : Value) (hb : g < base) : Own k e (w.setCell ⟨g, i, none⟩ u) base v l :=
  h.block fun b hv => Below.heap_setCell w ⟨g, i, none⟩ u b (fun e => by have := (h.lt hv).1; simp at e; omega)
theorem results_cell {P : Program} {w : World} {fn : Func} {t : TypeId} {a : Tmp} {A : Addr} {V : Value} {tmps : Array Value} (h : fn.results = #[.cell a t]) (ha : tmps.getD a undef = .pointer (some A)) (hl : (loadVar t A).run P w = .ok V w) :
    (results fn tmps).run P w = .ok V w := by
  rw [Array.getD_eq_getD_getElem?] at ha
  simp [results, h, ha, asAddr, hl]
theorem load_service {w : World} {g : Nat} {a b c : Value} (h : Blk w g 24 #[a, b, c]) : (loadVar 24 ⟨g, 0, none⟩).run Try.prog w = .ok (.agg #[a, b, c]) w := by
  have c0 := Blk.cell h 0
  have c1 := Blk.cell h 1
  have c2 := Blk.cell h 2
  go_simp
def Upto (now : Int) (L : List Int) : Prop := ∀ x ∈ L, -1 ≤ x ∧ x ≤ now
set_option maxRecDepth 20000 in
set_option maxHeartbeats 2000000 in
theorem service_any (g n : Nat) (now : Int) (w : World) (hdk0 : DeckOk w g) (hn : 1 ≤ n ∧ n ≤ 1000) (hnow : 0 ≤ now ∧ now ≤ 9999) :
    Calls Try.prog 12 #[.pointer (some ⟨g, 0, none⟩), .int .i64 n, .int .i64 now] w fun e w' => Gr g w w' ∧ DeckOk w' g ∧ ∃ (sp sg : Int) (A : Option Addr) (c : Nat) (L : List Int),
      e = .returned (.agg #[.int .i64 sp, .int .i64 sg, .slice A n c]) ∧ -1 ≤ sp ∧ sp < n ∧ 0 ≤ sg ∧ sg ≤ 3 ∧ L.length = n ∧ Upto now L ∧ Ints .i64 w' w'.heap.size A L ∧ (∀ a, A = some a → w.heap.size ≤ a.block) := by
  have hg := hdk0.lt
  go_enter Try.func12, Try.ntmps12
  go_wp2
  have b0 := lat_alloc (lat_alloc (Below.refl w.heap.size w) (.cells #[.int .i64 0, .int .i64 0, .slice none 0 0] 24)) (.cells #[.int .i64 (-1), .int .i64 0, .slice none 0 0] 24)
  have R0 := Blk.alloc (Blk.new (w := w) (t := 24) (cs := #[.int .i64 0, .int .i64 0, .slice none 0 0])) (.cells #[.int .i64 (-1), .int .i64 0, .slice none 0 0] 24)
  have R7 := Blk.new (w := w.alloc (.cells #[.int .i64 0, .int .i64 0, .slice none 0 0] 24)) (t := 24) (cs := #[.int .i64 (-1), .int .i64 0, .slice none 0 0])
  rw [heap_size] at R7
  have hd0 := hdk0.below b0
  have hG0 : Gr g w ((w.alloc (.cells #[.int .i64 0, .int .i64 0, .slice none 0 0] 24)).alloc (.cells #[.int .i64 (-1), .int .i64 0, .slice none 0 0] 24)) := Gr.of_below b0
  generalize (w.alloc (.cells #[.int .i64 0, .int .i64 0, .slice none 0 0] 24)).alloc (.cells #[.int .i64 (-1), .int .i64 0, .slice none 0 0] 24) = W at *
  obtain ⟨g7, hg7⟩ : ∃ g7, g7 = w.heap.size + 1 := ⟨_, rfl⟩
  rw [← hg7] at R7 ⊢
  have HG7 := Lib.hid hg7
  have hne : g7 ≠ g := by omega
  have hne6 : w.heap.size ≠ g := by omega
  have hlt7 : w.heap.size < g7 := by omega
  clear hg7
  go_loopw [10] (fun i wr => ∃ k : Nat, k ≤ n ∧ i = .int .i64 k ∧ Gr g w wr ∧ DeckOk wr g ∧ Blk wr w.heap.size 24 #[.int .i64 0, .int .i64 0, .slice none 0 0] ∧ ∃ (vE : Value) (L : List Int), Blk wr g7 24 #[.int .i64 (-1), .int .i64 0, vE] ∧ Own .i64 3 wr (g7 + 1) vE L ∧ L.length = k ∧ Upto now L) (fun i _ => n - (intOf i).toNat)
  case atStart => exact ⟨0, by omega, rfl, hG0, hd0, R0, _, [], R7, Own.nil_ _ _ _ _, rfl, fun x hx => by cases hx⟩
  case round =>
    obtain ⟨k, hk, rfl, hGr, hdk, hR6, vE, L, hB7, hown, hL, hU⟩ := hrel
    by_cases hlt : k < n
    · have hlt' : (k : Int) < n := by omega
      go_wp2_with fail
      refine wp_region_pre (R := (Gr g)) 13 39 [fun v _ => v = .pointer (some ⟨g7, 2, none⟩), fun v _ => v = vE, fun v _ => v = .int .i64 now, fun v _ => v = .pointer (some ⟨g, 0, none⟩), fun v w => ∃ x : Int, v = .int .i64 x ∧ 0 ≤ x ∧ x < 6, fun v w => ∃ x : Int, v = .int .i64 x ∧ -6 ≤ x ∧ x ≤ now, fun v w => ∃ x : Int, v = .int .i64 x ∧ -1 ≤ x ∧ x ≤ now, fun v w => ∃ (b : Nat) (x : Int), v = .slice (some ⟨b, 0, none⟩) 3 3 ∧ -1 ≤ x ∧ x ≤ now ∧ b ≠ g ∧ Blk w b 3 #[.int .i64 (-1), .int .i64 0, .int .i64 x], fun v _ => v = .pointer (some ⟨g, 0, none⟩), fun v w => ∃ x : Nat, v = .int .i64 x ∧ x < 3, fun v w => ∃ (b x : Nat) (y : Int) (c : Array Value), v = .pointer (some ⟨b, x, none⟩) ∧ -1 ≤ y ∧ y ≤ now ∧ b ≠ g ∧ c[x]? = some (.int .i64 y) ∧ Blk w b 3 c, fun v w => ∃ x : Int, v = .int .i64 x ∧ -1 ≤ x ∧ x ≤ now, fun v w => ∃ (b : Nat) (x : Int), v = .slice (some ⟨b, 0, none⟩) 1 1 ∧ -1 ≤ x ∧ x ≤ now ∧ b ≠ g ∧ Blk w b 3 #[.int .i64 x]] (Gr.trans) (Gr.drew) (by kernel_rfl) (fun _ _ d _ _ h => by cases d <;> exact h) rfl (by kernel_rfl) (stay_cons (stays_v _) (stay_cons (stays_v _) (stay_cons (stays_v _) (stay_cons (stays_v _) (stay_cons (fun _ _ _ h _ => h) (stay_cons (fun _ _ _ h _ => h) (stay_cons (fun _ _ _ h _ => h) (stay_cons (fun _ _ _ ⟨b, x, h1, h2, h3, h4, h5⟩ hb => ⟨b, x, h1, h2, h3, h4, hb.blk h5 h4⟩) (stay_cons (stays_v _) (stay_cons (fun _ _ _ h _ => h) (stay_cons (fun _ _ _ ⟨b, x, y, c, h1, h2, h3, h4, h5, h6⟩ hb => ⟨b, x, y, c, h1, h2, h3, h4, h5, hb.blk h6 h4⟩) (stay_cons (fun _ _ _ h _ => h) (stay_cons (fun _ _ _ ⟨b, x, h1, h2, h3, h4, h5⟩ hb => ⟨b, x, h1, h2, h3, h4, hb.blk h5 h4⟩) (stay_nil)))))))))))))) ?_ ?_
      · simp only [List.take_succ_cons, List.take_zero]
        refine steps_cons (Gr.refl) (fun ev xw hb hc hf hfr hd hr => ?_) ?_
        · have e7 : ev (.tmp 7) = .pointer (some ⟨g7, 0, none⟩) := hfr 7 (by kernel_rfl)
          clear hfr hd
          show OpOk _ _ ev xw fun v w' => (Gr g) xw w' ∧ v = .pointer (some ⟨g7, 2, none⟩)
          refine opOk_hid (fun Rp HR => ?_)
          unfold OpOk
          go_simp
          rw [HR.out]
          exact ⟨hr, rfl⟩
        refine steps_cons (Gr.refl) (fun ev xw hb hc hf hfr hd hr => ?_) ?_
        · have e12 : ev (.tmp 12) = .pointer (some ⟨g7, 2, none⟩) := hd 0 12 (by kernel_rfl)
          clear hfr hd
          have k13 := (hb.blk hB7 hne).at 2 rfl
          show OpOk _ _ ev xw fun v w' => (Gr g) xw w' ∧ v = vE
          refine opOk_hid (fun Rp HR => ?_)
          unfold OpOk
          go_simp
          rw [HR.out]
          exact ⟨hr, rfl⟩
        refine steps_cons (Gr.refl) (fun ev xw hb hc hf hfr hd hr => ?_) ?_
        · have e2 : ev (.tmp 2) = .int .i64 now := hfr 2 (by kernel_rfl)
          clear hfr hd
          show OpOk _ _ ev xw fun v w' => (Gr g) xw w' ∧ v = .int .i64 now
          refine opOk_hid (fun Rp HR => ?_)
          unfold OpOk
          go_simp
          rw [HR.out]
          exact ⟨hr, rfl⟩
        refine steps_cons (Gr.refl) (fun ev xw hb hc hf hfr hd hr => ?_) ?_
        · have e0 : ev (.tmp 0) = .pointer (some ⟨g, 0, none⟩) := hfr 0 (by kernel_rfl)
          clear hfr hd
          show OpOk _ _ ev xw fun v w' => (Gr g) xw w' ∧ v = .pointer (some ⟨g, 0, none⟩)
          refine opOk_hid (fun Rp HR => ?_)
          unfold OpOk
          go_simp
          rw [HR.out]
          exact ⟨hr, rfl⟩
        refine steps_cons (Gr.refl) (fun ev xw hb hc hf hfr hd hr => ?_) ?_
        · have e15 : ev (.tmp 15) = .pointer (some ⟨g, 0, none⟩) := hd 3 15 (by kernel_rfl)
          clear hfr hd
          show OpOk _ _ ev xw fun v w' => (Gr g) xw w' ∧ ∃ x : Int, v = .int .i64 x ∧ 0 ≤ x ∧ x < 6
          refine opOk_hid (fun Rp HR => ?_)
          unfold OpOk
          go_simp
          refine (next_ok g _ xw (hb.2 hdk) (by omega) (by omega)).mono ?_
          rintro e w'' ⟨hgr, hdk', x, h0, h1, rfl⟩
          refine ⟨_, rfl, ?_⟩
          rw [HR.out]
          exact ⟨hgr, x, rfl, h0, h1⟩
        refine steps_cons (Gr.refl) (fun ev xw hb hc hf hfr hd hr => ?_) ?_
        · have e14 : ev (.tmp 14) = .int .i64 now := hd 2 14 (by kernel_rfl)
          obtain ⟨x16, e16, y16, z16⟩ : ∃ x : Int, ev (.tmp 16) = .int .i64 x ∧ 0 ≤ x ∧ x < 6 := hd 4 16 (by kernel_rfl)
          clear hfr hd
          have hw : IntKind.i64.wrap (now - x16) = now - x16 := by rw [IntKind.wrap_i64]; omega
          show OpOk _ _ ev xw fun v w' => (Gr g) xw w' ∧ ∃ x : Int, v = .int .i64 x ∧ -6 ≤ x ∧ x ≤ now
          refine opOk_hid (fun Rp HR => ?_)
          unfold OpOk
          go_simp
          rw [HR.out]
          exact ⟨hr, _, rfl, by omega, by omega⟩
        refine steps_cons (Gr.refl) (fun ev xw hb hc hf hfr hd hr => ?_) ?_
        · obtain ⟨x17, e17, y17, z17⟩ : ∃ x : Int, ev (.tmp 17) = .int .i64 x ∧ -6 ≤ x ∧ x ≤ now := hd 5 17 (by kernel_rfl)
          clear hfr hd
          show OpOk _ _ ev xw fun v w' => (Gr g) xw w' ∧ ∃ x : Int, v = .int .i64 x ∧ -1 ≤ x ∧ x ≤ now
          refine opOk_hid (fun Rp HR => ?_)
          unfold OpOk
          go_simp
          rw [HR.out]
          exact ⟨hr, _, rfl, by split <;> omega, by split <;> omega⟩
        refine steps_cons (Gr.refl) (fun ev xw hb hc hf hfr hd hr => ?_) ?_
        · obtain ⟨x18, e18, y18, z18⟩ : ∃ x : Int, ev (.tmp 18) = .int .i64 x ∧ -1 ≤ x ∧ x ≤ now := hd 6 18 (by kernel_rfl)
          clear hfr hd
          have hlt := (hb.2 hdk).lt
          show OpOk _ _ ev xw fun v w' => (Gr g) xw w' ∧ ∃ (b : Nat) (x : Int), v = .slice (some ⟨b, 0, none⟩) 3 3 ∧ -1 ≤ x ∧ x ≤ now ∧ b ≠ g ∧ Blk w' b 3 #[.int .i64 (-1), .int .i64 0, .int .i64 x]
          refine opOk_hid (fun Rp HR => ?_)
          unfold OpOk
          go_simp
          rw [HR.out]
          exact ⟨Gr.of_below (lat_alloc (Below.refl _ _) _), _, _, rfl, y18, z18, by omega, Blk.new⟩
        refine steps_cons (Gr.refl) (fun ev xw hb hc hf hfr hd hr => ?_) ?_
        · have e0 : ev (.tmp 0) = .pointer (some ⟨g, 0, none⟩) := hfr 0 (by kernel_rfl)
          clear hfr hd
          show OpOk _ _ ev xw fun v w' => (Gr g) xw w' ∧ v = .pointer (some ⟨g, 0, none⟩)
          refine opOk_hid (fun Rp HR => ?_)
          unfold OpOk
          go_simp
          rw [HR.out]
          exact ⟨hr, rfl⟩
        refine steps_cons (Gr.refl) (fun ev xw hb hc hf hfr hd hr => ?_) ?_
        · have e20 : ev (.tmp 20) = .pointer (some ⟨g, 0, none⟩) := hd 8 20 (by kernel_rfl)
          clear hfr hd
          show OpOk _ _ ev xw fun v w' => (Gr g) xw w' ∧ ∃ x : Nat, v = .int .i64 x ∧ x < 3
          refine opOk_hid (fun Rp HR => ?_)
          unfold OpOk
          go_simp
          refine (next_ok g _ xw (hb.2 hdk) (by omega) (by omega)).mono ?_
          rintro e w'' ⟨hgr, hdk', x, h0, h1, rfl⟩
          obtain ⟨q, rfl⟩ := Int.eq_ofNat_of_zero_le h0
          refine ⟨_, rfl, ?_⟩
          rw [HR.out]
          exact ⟨hgr, q, rfl, by omega⟩
        refine steps_cons (Gr.refl) (fun ev xw hb hc hf hfr hd hr => ?_) ?_
        · obtain ⟨b19, x19, e19, y19, z19, n19, B19⟩ : ∃ (b : Nat) (x : Int), ev (.tmp 19) = .slice (some ⟨b, 0, none⟩) 3 3 ∧ -1 ≤ x ∧ x ≤ now ∧ b ≠ g ∧ Blk xw b 3 #[.int .i64 (-1), .int .i64 0, .int .i64 x] := hd 7 19 (by kernel_rfl)
          obtain ⟨x21, e21, z21⟩ : ∃ x : Nat, ev (.tmp 21) = .int .i64 x ∧ x < 3 := hd 9 21 (by kernel_rfl)
          clear hfr hd
          have hx3 : (x21 : Int) < 3 := by omega
          show OpOk _ _ ev xw fun v w' => (Gr g) xw w' ∧ ∃ (b x : Nat) (y : Int) (c : Array Value), v = .pointer (some ⟨b, x, none⟩) ∧ -1 ≤ y ∧ y ≤ now ∧ b ≠ g ∧ c[x]? = some (.int .i64 y) ∧ Blk w' b 3 c
          refine opOk_hid (fun Rp HR => ?_)
          unfold OpOk
          go_simp
          rw [HR.out]
          have hx4 : x21 = 0 ∨ x21 = 1 ∨ x21 = 2 := by omega
          rcases hx4 with rfl | rfl | rfl
          · exact ⟨hr, _, _, _, _, rfl, by omega, by omega, n19, rfl, B19⟩
          · exact ⟨hr, _, _, _, _, rfl, by omega, by omega, n19, rfl, B19⟩
          · exact ⟨hr, _, _, _, _, rfl, y19, z19, n19, rfl, B19⟩
        refine steps_cons (Gr.refl) (fun ev xw hb hc hf hfr hd hr => ?_) ?_
        · obtain ⟨b22, p22, x22, c22, e22, y22, z22, n22, k22, B22⟩ : ∃ (b x : Nat) (y : Int) (c : Array Value), ev (.tmp 22) = .pointer (some ⟨b, x, none⟩) ∧ -1 ≤ y ∧ y ≤ now ∧ b ≠ g ∧ c[x]? = some (.int .i64 y) ∧ Blk xw b 3 c := hd 10 22 (by kernel_rfl)
          clear hfr hd
          have k22 := B22.at p22 k22
          show OpOk _ _ ev xw fun v w' => (Gr g) xw w' ∧ ∃ x : Int, v = .int .i64 x ∧ -1 ≤ x ∧ x ≤ now
          refine opOk_hid (fun Rp HR => ?_)
          unfold OpOk
          go_simp
          rw [HR.out]
          exact ⟨hr, _, rfl, y22, z22⟩
        refine steps_cons (Gr.refl) (fun ev xw hb hc hf hfr hd hr => ?_) ?_
        · obtain ⟨x23, e23, y23, z23⟩ : ∃ x : Int, ev (.tmp 23) = .int .i64 x ∧ -1 ≤ x ∧ x ≤ now := hd 11 23 (by kernel_rfl)
          clear hfr hd
          have hlt := (hb.2 hdk).lt
          show OpOk _ _ ev xw fun v w' => (Gr g) xw w' ∧ ∃ (b : Nat) (x : Int), v = .slice (some ⟨b, 0, none⟩) 1 1 ∧ -1 ≤ x ∧ x ≤ now ∧ b ≠ g ∧ Blk w' b 3 #[.int .i64 x]
          refine opOk_hid (fun Rp HR => ?_)
          unfold OpOk
          go_simp
          rw [HR.out]
          exact ⟨Gr.of_below (lat_alloc (Below.refl _ _) _), _, _, rfl, y23, z23, by omega, Blk.new⟩
        exact steps_nil
      · intro vs W5 hb5 hk
        obtain ⟨b24, x24, k24, y24, z24, n24, B24⟩ : ∃ (b : Nat) (x : Int), vs 12 = .slice (some ⟨b, 0, none⟩) 1 1 ∧ -1 ≤ x ∧ x ≤ now ∧ b ≠ g ∧ Blk W5 b 3 #[.int .i64 x] := hk 12 (by omega)
        have k13 : vs 1 = vE := hk 1 (by omega)
        clear hk
        simp only [List.take_succ_cons, List.take_zero, List.drop_succ_cons, List.drop_zero, putAll, Act.put, List.setIfInBounds_toArray, List.set_cons_zero, List.set_cons_succ, k24, k13, Nat.reduceAdd]
        clear k24 k13
        have own5 := hown.gr hb5 (by omega)
        have B5 := hb5.blk hB7 hne
        have R5 := hb5.blk hR6 hne6
        have hGr5 := hGr.trans hb5
        have hdk5 := hb5.2 hdk
        have hlt75 := B5.lt
        go_wp2_with (at_builtin; refine wpList_append_ints rfl (.tmp 13) (.tmp 24) _ rfl (g7 + 1) 3 .i64 8 Try.underlying22 int_info vE L rfl own5 _ 1 [x24] 1 rfl rfl (ints_blk B24) (by simp; omega) (by omega) (by omega) ?_; intro v6 w6 own6 g6 a6; have B6 := B5.grown g6 (fun e => by have := (own5.lt e).1; omega); have R6 := R5.grown g6 (fun e => by have := (own5.lt e).1; omega); have hGr6 := hGr5.more hdk5 hg g6 (fun k e => by have := (own5.lt e).1; omega); obtain ⟨t0, t1, t2, tf0, tf1, tf2⟩ := B6.three; obtain ⟨A6, c6, hv6⟩ := own_len own6 (show (L ++ [x24]).length = k + 1 by simp [hL]); subst hv6)
        have hGr7 := hGr6.1.more hGr6.2 hg (grownBy_set w6 g7 2 (.slice A6 (k + 1) c6)) (fun k e => by injection e with e; omega)
        go_roundw
        case rel => exact ⟨k + 1, by omega, by go_num, hGr7.1, hGr7.2, R6.far (p := ⟨g7, 2, none⟩) (by simp; omega) _, _, L ++ [x24], B6.set_ 2 _, own6.grownSet _ (by omega), by simp [hL], fun x hx => by
          rcases List.mem_append.1 hx with h | h
          · exact hU x h
          · rw [List.mem_singleton] at h; subst h; exact ⟨y24, z24⟩⟩
        case measure => simp [intOf]; omega
    · have hkn : k = n := by omega
      subst hkn
      obtain ⟨A, c, hv, _, _, hI⟩ := hown.ints
      have hfarA : ∀ a, A = some a → g7 + 1 ≤ a.block := fun a ha => by
        subst ha
        have := (hown.lt (b := a.block) (by rw [hv]; rfl)).1
        exact this
      rw [hL] at hv
      have HL := Lib.hid hL
      subst hv
      clear hL
      have c7 := hB7.three
      go_wp2_with fail
      refine (next_ok g 2 wr hdk (by omega) (by omega)).mono ?_
      rintro e w1 ⟨hg1, hdk1, x, x0, x1, rfl⟩
      have hGr1 := hGr.trans hg1
      have B1 := hg1.blk hB7 hne
      have R1 := hg1.blk hR6 hne6
      have own1 := hown.gr hg1 (by omega)
      by_cases hx : x = 0
      · have z : (x == 0) = true := by simpa using hx
        clear hx
        go_wp2_with fail
        refine (next_ok g k w1 hdk1 (by omega) (by omega)).mono ?_
        rintro e w2 ⟨hg2, hdk2, sp, sp0, sp1, rfl⟩
        go_wp2_with fail
        refine (next_ok g 4 w2 hdk2 (by omega) (by omega)).mono ?_
        rintro e w3 ⟨hg3, hdk3, sg, sg0, sg1, rfl⟩
        have hGr3 := (hGr1.trans hg2).trans hg3
        have B3 := (hg2.trans hg3).blk B1 hne
        have R3 := (hg2.trans hg3).blk R1 hne6
        have own3 := own1.gr (hg2.trans hg3) (by omega)
        obtain ⟨t0, t1, t2, tf0, tf1, tf2⟩ := B3.three
        obtain ⟨u0, u1, u2, uf0, uf1, uf2⟩ := R3.three
        have hI3 : Ints .i64 w3 w3.heap.size A L := by
          obtain ⟨A', c', hv', _, _, hI'⟩ := own3.ints
          injection hv' with e1 _ _
          subst e1
          exact hI'
        clear hB7 hR6 B1 R1 own1 hown c7 hI
        go_wp2
        have R4 := (R3.far (p := ⟨g7, 0, none⟩) (by simp; omega) (.int .i64 sp)).far (p := ⟨g7, 1, none⟩) (by simp; omega) (.int .i64 sg)
        have hG := Gr.set (i := 2) (Gr.set (i := 1) (Gr.set (i := 0) (Gr.set (i := 1) (Gr.set (i := 0) ⟨hGr3, hdk3⟩ hg (.int .i64 sp) (show w.heap.size ≤ g7 by omega)) hg (.int .i64 sg) (show w.heap.size ≤ g7 by omega)) hg (.int .i64 sp) (Nat.le_refl _)) hg (.int .i64 sg) (Nat.le_refl _)) hg (.slice A k c) (Nat.le_refl _)
        have hf7 : ∀ a, A = some a → a.block ≠ g7 := fun a ha => by have := hfarA a ha; omega
        have hf6 : ∀ a, A = some a → a.block ≠ w.heap.size := fun a ha => by have := hfarA a ha; omega
        have hI5 := (((((hI3.far (i := 0) hf7 (.int .i64 sp)).far (i := 1) hf7 (.int .i64 sg)).far (i := 0) hf6 (.int .i64 sp)).far (i := 1) hf6 (.int .i64 sg)).far (i := 2) hf6 (.slice A k c))
        refine bodyPost_ret (results_cell rfl rfl (load_service (Blk.set3 R4 _ _ _))) rfl ?_
        exact ⟨hG.1, hG.2, sp, sg, A, c, L, rfl, by omega, by omega, sg0, by omega, HL.out, hU, by simpa [World.setCell] using hI5, fun a ha => by have := hfarA a ha; omega⟩
      · have z : (x == 0) = false := by simpa using hx
        have hI1 : Ints .i64 w1 w1.heap.size A L := by
          obtain ⟨A', c', hv', _, _, hI'⟩ := own1.ints
          injection hv' with e1 _ _
          subst e1
          exact hI'
        obtain ⟨t0, t1, t2, tf0, tf1, tf2⟩ := B1.three
        obtain ⟨u0, u1, u2, uf0, uf1, uf2⟩ := R1.three
        clear hx hB7 hR6 own1 hown c7 hI
        go_wp2
        have hG := Gr.set (i := 2) (Gr.set (i := 1) (Gr.set (i := 0) ⟨hGr1, hdk1⟩ hg (.int .i64 (-1)) (Nat.le_refl _)) hg (.int .i64 0) (Nat.le_refl _)) hg (.slice A k c) (Nat.le_refl _)
        have hf6 : ∀ a, A = some a → a.block ≠ w.heap.size := fun a ha => by have := hfarA a ha; omega
        have hI5 := ((hI1.far (i := 0) hf6 (.int .i64 (-1))).far (i := 1) hf6 (.int .i64 0)).far (i := 2) hf6 (.slice A k c)
        refine bodyPost_ret (results_cell rfl rfl (load_service (Blk.set3 R1 _ _ _))) rfl ?_
        exact ⟨hG.1, hG.2, -1, 0, A, c, L, rfl, by omega, by omega, by omega, by omega, HL.out, hU, by simpa [World.setCell] using hI5, fun a ha => by have := hfarA a ha; omega⟩
end Go.Proofs.Ytikffoepndpfjaa
