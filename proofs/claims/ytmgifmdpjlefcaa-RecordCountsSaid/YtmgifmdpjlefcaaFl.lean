/-
  A view of a junction that flashes. Conditions: few phases.
-/
import Derived.Test.YtmgifmdpjlefcaaJm
import Derived.Test.YtmgifmdpjlefcaaCn
namespace Go.Proofs.Ytmgifmdpjlefcaa
open Go.ChangeShapes Go.WideShapes Go.ChangeAt Go.RowKit
set_option linter.unusedVariables false

theorem frm_of {l : List Oper} {n : Nat} {t : Tmp} (h : ((List.range n).all fun i => ((l[i]?).bind (·.dst)) != some t) = true) : ∀ i, i < n → ((l[i]?).bind (·.dst)) ≠ some t := fun i hi => by
  have := List.all_eq_true.1 h i (List.mem_range.2 hi)
  simpa using this
theorem load_view {w : World} {g : Nat} {a b c d : Value} (h : Blk w g 40 #[a, b, c, d]) : (loadVar 40 ⟨g, 0, none⟩).run Try.prog w = .ok (.agg #[a, b, c, d]) w := by
  have c0 := Blk.cell h 0
  have c1 := Blk.cell h 1
  have c2 := Blk.cell h 2
  have c3 := Blk.cell h 3
  go_simp
theorem step_store_v {ops : Array Oper} {o : Oper} {a : Act} {w : World} {rest : List Oper} {Q : Exit → Act → World → Prop} (hgd : o.guard = none) {p v : Operand} (ho : o.op = .store 40 p v) (hd : o.dst = none) {b : Nat} {A1 A2 : Option Addr} {n1 m1 n2 m2 : Nat} {fl ov : Bool} {x0 y0 z0 u0 : Value} (hp : a.eval p = .pointer (some ⟨b, 0, none⟩)) (hv : a.eval v = .agg #[.bool fl, .bool ov, .slice A1 n1 m1, .slice A2 n2 m2]) (hB : Blk w b 40 #[x0, y0, z0, u0])
    (h : ∀ w' : World, Blk w' b 40 #[.bool fl, .bool ov, .slice A1 n1 m1, .slice A2 n2 m2] → w.grownBy w' (some b) → wpList Try.prog ops Q rest a w') :
    wpList Try.prog ops Q (o :: rest) a w := by
  unfold wpList
  have hw : Region.wanted o (yielded ops a.tmps) = true := by unfold Region.wanted; rw [hgd]
  rw [if_pos hw]
  refine .inl ?_
  have f0 := hB.frozen 0
  have f1 := hB.frozen 1
  have f2 := hB.frozen 2
  have f3 := hB.frozen 3
  have c0 := hB.at 0 rfl
  have c1 := hB.at 1 rfl
  have c2 := hB.at 2 rfl
  have c3 := hB.at 3 rfl
  have hk := h _ (hB.set4 (.bool fl) (.bool ov) (.slice A1 n1 m1) (.slice A2 n2 m2)) (grownBy_setAt (grownBy_setAt (grownBy_setAt (grownBy_set w b 0 _) b 1 _ rfl) b 2 _ rfl) b 3 _ rfl)
  unfold Oper.wp
  simp only [execOp, ho, hp, hv]
  go_simp
  all_goals (first | exact hk | (simp [Act.put, hd]; exact hk))
set_option maxRecDepth 20000 in
set_option maxHeartbeats 2000000 in
theorem flash_any (A Bc : Option Addr) (cP d n : Nat) (st : Int) (w : World) (h8 : n ≤ 60) :
    Calls Try.prog 14 #[.agg #[.slice A n cP, .slice Bc n d, .int .i64 st]] w fun e w' => ∃ g h : Nat, e = .returned (.agg #[.bool true, .bool false, .slice (some ⟨g, 0, none⟩) n n, .slice (some ⟨h, 0, none⟩) n n]) ∧ Below w.heap.size w w' ∧ w.heap.size ≤ g ∧ w.heap.size ≤ h ∧ g ≠ h ∧ NxB w' g (List.replicate n 0) ∧ NxB w' h (List.replicate n 0) := by
  have bW := lat_alloc (lat_alloc (Below.refl w.heap.size w) (.cells #[.slice A n cP, .slice Bc n d, .int .i64 st] 29)) (.cells #[.bool false, .bool false, .slice none 0 0, .slice none 0 0] 40)
  have B1 := (Blk.new (w := w) (t := 29) (cs := #[.slice A n cP, .slice Bc n d, .int .i64 st])).alloc (.cells #[.bool false, .bool false, .slice none 0 0, .slice none 0 0] 40)
  have B2 := Blk.new (w := w.alloc (.cells #[.slice A n cP, .slice Bc n d, .int .i64 st] 29)) (t := 40) (cs := #[.bool false, .bool false, .slice none 0 0, .slice none 0 0])
  rw [heap_size] at B2
  go_enter Try.func14, Try.ntmps14
  have j0 := B1.at 0 rfl
  go_wp2_with fail
  generalize (w.alloc (.cells #[.slice A n cP, .slice Bc n d, .int .i64 st] 29)).alloc (.cells #[.bool false, .bool false, .slice none 0 0, .slice none 0 0] 40) = W at *
  have hgg : w.heap.size + 1 < W.heap.size := B2.lt
  clear j0
  refine wp_region_invs 5 12 (fun lst vs w => JMk W n 1 3 lst vs w ∧ (lst 0 = true → vs 0 = .int .i64 n) ∧ (lst 2 = true → vs 2 = .int .i64 n) ∧ (lst 4 = true → lst 1 = true ∧ lst 3 = true ∧ ∃ g h : Nat, vs 1 = .slice (some ⟨g, 0, none⟩) n n ∧ vs 3 = .slice (some ⟨h, 0, none⟩) n n ∧ vs 4 = .agg #[.bool true, .bool false, .slice (some ⟨g, 0, none⟩) n n, .slice (some ⟨h, 0, none⟩) n n])) (by kernel_rfl) (fun _ _ d _ _ h => by cases d <;> exact h) rfl (by kernel_rfl) (fun vs => ⟨JMk.start vs, fun h => by (cases h), fun h => by (cases h), fun h => by (cases h)⟩) ?_ ?_
  · intro k' o hk' ho
    have hk6 : k' = 0 ∨ k' = 1 ∨ k' = 2 ∨ k' = 3 ∨ k' = 4 := by omega
    rcases hk6 with rfl | rfl | rfl | rfl | rfl
    · obtain rfl := Option.some.inj ho
      rintro lst vs ev xw ⟨hJ, v0, v2, v4⟩ hl hc hf hfr hd
      have e3 : ev (.tmp 3) = .int .i64 n := hfr 3 (frm_of (by kernel_rfl))
      clear hfr hd
      refine opS_hid (fun Rp HR => ?_)
      unfold OpS
      go_simp
      rw [HR.out]
      exact ⟨hJ.other (by decide) (by decide), fun _ => rfl, by simpa using v2, by simpa using v4⟩
    · obtain rfl := Option.some.inj ho
      rintro lst vs ev xw ⟨hJ, v0, v2, v4⟩ hl hc hf hfr hd
      have d7 := hd 0 7 (by kernel_rfl) rfl
      have e7 : ev (.tmp 7) = .int .i64 n := d7.2.trans (v0 d7.1)
      clear hfr hd d7
      have hmk := make_int n (by omega) xw
      refine opS_hid (fun Rp HR => ?_)
      unfold OpS
      go_simp
      rw [HR.out]
      refine ⟨hJ.mk1 (by decide) hl (by omega) rfl, by simpa using v0, by simpa using v2, fun h4 => ?_⟩
      have h4 : lst 4 = true := by simpa using h4
      have := (v4 h4).1
      rw [hl] at this; cases this
    · obtain rfl := Option.some.inj ho
      rintro lst vs ev xw ⟨hJ, v0, v2, v4⟩ hl hc hf hfr hd
      have e3 : ev (.tmp 3) = .int .i64 n := hfr 3 (frm_of (by kernel_rfl))
      clear hfr hd
      refine opS_hid (fun Rp HR => ?_)
      unfold OpS
      go_simp
      rw [HR.out]
      exact ⟨hJ.other (by decide) (by decide), by simpa using v0, fun _ => rfl, by simpa using v4⟩
    · obtain rfl := Option.some.inj ho
      rintro lst vs ev xw ⟨hJ, v0, v2, v4⟩ hl hc hf hfr hd
      have d9 := hd 2 9 (by kernel_rfl) rfl
      have e9 : ev (.tmp 9) = .int .i64 n := d9.2.trans (v2 d9.1)
      clear hfr hd d9
      have hmk := make_int n (by omega) xw
      refine opS_hid (fun Rp HR => ?_)
      unfold OpS
      go_simp
      rw [HR.out]
      refine ⟨hJ.mk2 (by decide) hl (by omega) rfl, by simpa using v0, by simpa using v2, fun h4 => ?_⟩
      have h4 : lst 4 = true := by simpa using h4
      have := (v4 h4).2.1
      rw [hl] at this; cases this
    · obtain rfl := Option.some.inj ho
      rintro lst vs ev xw ⟨hJ, v0, v2, v4⟩ hl hc hf hfr hd
      have d8 := hd 1 8 (by kernel_rfl) rfl
      have d10 := hd 3 10 (by kernel_rfl) rfl
      obtain ⟨g, g1, _, _⟩ := hJ.vi d8.1
      obtain ⟨h, g2, _, _⟩ := hJ.vk d10.1
      have e8 : ev (.tmp 8) = .slice (some ⟨g, 0, none⟩) n n := d8.2.trans g1
      have e10 : ev (.tmp 10) = .slice (some ⟨h, 0, none⟩) n n := d10.2.trans g2
      have h1 := d8.1
      have h3 := d10.1
      clear hfr hd d8 d10
      refine opS_hid (fun Rp HR => ?_)
      unfold OpS
      go_simp
      rw [HR.out]
      exact ⟨hJ.other (by decide) (by decide), by simpa using v0, by simpa using v2, fun _ => ⟨by simpa using h1, by simpa using h3, g, h, by simpa using g1, by simpa using g2, rfl⟩⟩
  · rintro vs w5 ⟨hJ, v0, v2, v4⟩
    obtain ⟨_, _, g, h, k1, k3, k4⟩ := v4 rfl
    obtain ⟨g', q1, q2, q3⟩ := hJ.vi rfl
    obtain ⟨h', r1, r2, r3⟩ := hJ.vk rfl
    have hne := hJ.ne rfl rfl
    rw [k1] at q1 hne
    rw [k3] at r1 hne
    have e1 : g = g' := by injection q1 with q1; have q1 := Option.some.inj q1; injection q1
    have e2 : h = h' := by injection r1 with r1; have r1 := Option.some.inj r1; injection r1
    subst e1; subst e2
    have hne : g ≠ h := fun e => hne (by rw [e])
    have hb := hJ.grew
    simp only [List.take_succ_cons, List.take_zero, List.drop_succ_cons, List.drop_zero, putAll, Act.put, List.setIfInBounds_toArray, List.set_cons_zero, List.set_cons_succ, k4, Nat.reduceAdd]
    have X2 := B2.below hb
    refine step_store_v (by rfl) (by rfl) (by rfl) (b := w.heap.size + 1) (by rfl) (by rfl) X2 ?_
    intro w6 Y2 hg6
    unfold wpList
    go_wp2
    refine bodyPost_ret (results_cell rfl rfl (load_view Y2)) rfl ?_
    have hF := Below.grown (bW.trans (Below.mono hb bW.size)) hg6 (Below.size (bW.trans (Below.mono hb bW.size))) (fun k e => by injection e with e; omega)
    have hWl := bW.size
    exact ⟨g, h, rfl, hF, by omega, by omega, hne, q3.grown hg6 (by intro e; injection e with e; omega), r3.grown hg6 (by intro e; injection e with e; omega)⟩
end Go.Proofs.Ytmgifmdpjlefcaa
