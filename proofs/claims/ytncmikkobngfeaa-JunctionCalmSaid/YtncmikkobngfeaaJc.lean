/-
  The law JunctionCalm. Conditions: none.
-/
import Derived.Test.YtncmikkobngfeaaJs
import Derived.Deep.OwnRows
import Derived.BigQuiet
namespace Go.Proofs.Ytncmikkobngfeaa
open Go.ChangeShapes Go.WideShapes Go.RowKit
set_option linter.unusedVariables false

theorem Blk.ne_sgct {w : World} {a b : Nat} {cs ds : Array Value} (h : Blk w a 27 cs) (hB : Blk w b 25 ds) : a ≠ b := fun e => by
  rw [e] at h
  have := h.symm.trans hB
  injection this with this; injection this with _ this; exact absurd this (by decide)
theorem SgH.stored_sg {w w' : World} {B n b : Nat} {v : Value} {c : Ct} {q : Bool} {cs : Array Value} (h : SgH w B n v c q) (hB : Blk w b 27 cs) (hg : w.grownBy w' (some b)) : SgH w' B n v c q := by
  obtain ⟨gl, cl, gx, cx, h1, h2, h3, h4, h5⟩ := h
  exact ⟨gl, cl, gx, cx, h1, h2, h3, h4.grown hg (fun e => by injection e with e; exact h4.ne_sg hB e.symm), h5.grown hg (fun e => by injection e with e; exact h5.ne_sg hB e.symm)⟩
theorem SgH.stored_ct {w w' : World} {B n b : Nat} {v : Value} {c : Ct} {q : Bool} {cs : Array Value} (h : SgH w B n v c q) (hB : Blk w b 25 cs) (hg : w.grownBy w' (some b)) : SgH w' B n v c q := by
  obtain ⟨gl, cl, gx, cx, h1, h2, h3, h4, h5⟩ := h
  exact ⟨gl, cl, gx, cx, h1, h2, h3, h4.grown hg (fun e => by injection e with e; exact h4.ne_ct hB e.symm), h5.grown hg (fun e => by injection e with e; exact h5.ne_ct hB e.symm)⟩
theorem CtH.stored_sg {w w' : World} {B n b : Nat} {v : Value} {c : Ct} {cs : Array Value} (h : CtH w B n v c) (hB : Blk w b 27 cs) (hg : w.grownBy w' (some b)) : CtH w' B n v c := by
  obtain ⟨gl, cl, gx, cx, h1, h2, h3, h4, h5⟩ := h
  exact ⟨gl, cl, gx, cx, h1, h2, h3, h4.grown hg (fun e => by injection e with e; exact h4.ne_sg hB e.symm), h5.grown hg (fun e => by injection e with e; exact h5.ne_sg hB e.symm)⟩
theorem CtH.stored_ct {w w' : World} {B n b : Nat} {v : Value} {c : Ct} {cs : Array Value} (h : CtH w B n v c) (hB : Blk w b 25 cs) (hg : w.grownBy w' (some b)) : CtH w' B n v c := h.stored hB hg
/-- The variable gs holds the signal with the control c that is not latched, gc the control c. -/
def StdJ (W wr : World) (B gs gc n : Nat) (c : Ct) : Prop := (∃ gl cl gx cx : Nat, Blk wr gs 27 #[.slice (some ⟨gl, 0, none⟩) n cl, .int .i64 (c).gr, .slice (some ⟨gx, 0, none⟩) 2 cx, .int .i64 (c).wt, .bool false] ∧ LiB wr gl c.li ∧ NxB wr gx c.nx) ∧ (∃ gl cl gx cx : Nat, Blk wr gc 25 #[.slice (some ⟨gl, 0, none⟩) n cl, .int .i64 (c).gr, .slice (some ⟨gx, 0, none⟩) 2 cx, .int .i64 (c).wt] ∧ LiB wr gl c.li ∧ NxB wr gx c.nx) ∧ Below B W wr
set_option maxRecDepth 40000 in
set_option maxHeartbeats 8000000 in
theorem calm_any (A0 : Option Addr) (cA : Nat) (l : List Int) (B0 : Option Addr) (cB : Nat) (ts : List Int) (w : World) (hs : Ints .i64 w w.heap.size A0 l) (hn : Nums l) (hl : l.length ≤ 9223372036854775807) (hsm0 : Ints .i64 w w.heap.size B0 ts) (hnm : Nums ts) (hlm : ts.length ≤ 9223372036854775807) :
    Calls Try.prog 5 #[.slice A0 l.length cA, .slice B0 ts.length cB] w fun e w' => e = .returned (.bool true) ∧ Below w.heap.size w w' := by
  go_enter Try.func5, Try.ntmps5
  by_cases hlen : (120 : Int) < ts.length
  · go_wp2_with fail
    refine (awake_any _).mono ?_
    rintro e w2 ⟨rfl, hb⟩
    go_wp2
    go_ret
    exact ⟨rfl, hb⟩
  go_wp2_with fail
  refine (new_ok A0 l cA _ hs hn hl).mono ?_
  rintro e w2 ⟨rfl, hdk, hb2, hlt2⟩
  go_wp2_with fail
  refine (junction_any w.heap.size w2 hdk).mono ?_
  rintro e w3 ⟨hgr, hdk3, q, st, ex, P, A1, B1, cU, cW, rfl, hj, hP, hI, hA1, hB1, hcU, hdW⟩
  have hb3 := hgr.base hb2 (Nat.le_refl _)
  have hjc := junC_drawn hj
  have hjv := jun_drawn hj
  obtain ⟨n, hnn⟩ : ∃ n, P.length = n := ⟨_, rfl⟩
  obtain ⟨C, hCC⟩ : ∃ C, rowsL P ex = C := ⟨_, rfl⟩
  rw [hnn, hCC] at hjc
  rw [hCC] at hI hjv
  rw [hnn] at hcU hdW ⊢
  have HN := Lib.hid hnn
  have HRC := Lib.hid hjc.rows.len
  clear hnn hCC hgr hdk hdk3 hb2 hj hA1 hB1
  have h1 := hjc.h1
  have h8 := hjc.h8
  obtain ⟨bA, oA, rfl, hbA, _⟩ := hP (by have := HN.out; omega)
  obtain ⟨bB, oB, rfl, hbB, _⟩ := hI (by have := HRC.out; omega)
  have bJ := lat_alloc (Below.refl w3.heap.size w3) (.cells #[.slice (some ⟨bA, oA, none⟩) n cU, .slice (some ⟨bB, oB, none⟩) n cW, .int .i64 st] 31)
  have BJ := Blk.new (w := w3) (t := 31) (cs := #[.slice (some ⟨bA, oA, none⟩) n cU, .slice (some ⟨bB, oB, none⟩) n cW, .int .i64 st])
  have hI4 := hI.grow bJ
  have hP4 := hP.grow bJ
  have hb4 := hb3.trans (bJ.mono hb3.size)
  have hsm := (hsm0.below hb4).more hb4.size
  go_wp2_with fail
  have HGC := Lib.hid (heap_size w3 (.cells #[.slice (some ⟨bA, oA, none⟩) n cU, .slice (some ⟨bB, oB, none⟩) n cW, .int .i64 st] 31))
  generalize w3.alloc (.cells #[.slice (some ⟨bA, oA, none⟩) n cU, .slice (some ⟨bB, oB, none⟩) n cW, .int .i64 st] 31) = W4 at *
  generalize w3.heap.size = gj at *
  clear bJ hI hP hb3 hs hsm0
  obtain ⟨B, hBB⟩ : ∃ B, W4.heap.size = B := ⟨_, rfl⟩
  have HBB := Lib.hid hBB
  have hgjB : gj < B := by have := HGC.out; omega
  have hbAB : bA < B := by have := HGC.out; omega
  have hbBB : bB < B := by have := HGC.out; omega
  have hBW : B ≤ W4.heap.size := by omega
  have hwB : w.heap.size ≤ B := by have := hb4.size; omega
  rw [hBB] at hI4 hP4 hsm
  clear hBB
  obtain ⟨K, hK⟩ : ∃ K, K = known ([fun v _ => v = .agg #[.slice (some ⟨bA, oA, none⟩) n cU, .slice (some ⟨bB, oB, none⟩) n cW, .int .i64 st], fun v w => SgH w W4.heap.size n v (initC P n st) false, fun v _ => v = .agg #[.slice (some ⟨bA, oA, none⟩) n cU, .slice (some ⟨bB, oB, none⟩) n cW, .int .i64 st], fun v w => CtH w W4.heap.size n v (initC P n st), fun _ _ => True, fun _ _ => True, fun _ _ => True, fun _ _ => True]) := ⟨_, rfl⟩
  have hg : ∀ i v (w w' : World), K i v w → Below w.heap.size w w' → K i v w' := by rw [hK]; exact fun i v w w' h hb => known_stays (L := [fun v _ => v = .agg #[.slice (some ⟨bA, oA, none⟩) n cU, .slice (some ⟨bB, oB, none⟩) n cW, .int .i64 st], fun v w => SgH w W4.heap.size n v (initC P n st) false, fun v _ => v = .agg #[.slice (some ⟨bA, oA, none⟩) n cU, .slice (some ⟨bB, oB, none⟩) n cW, .int .i64 st], fun v w => CtH w W4.heap.size n v (initC P n st), fun _ _ => True, fun _ _ => True, fun _ _ => True, fun _ _ => True]) (R := Bl) (stay_cons (stays_v _) (stay_cons (fun v w w1 h hb => SgH.below h hb) (stay_cons (stays_v _) (stay_cons (fun v w w1 h hb => CtH.below h hb) (stay_cons (fun _ _ _ _ _ => trivial) (stay_cons (fun _ _ _ _ _ => trivial) (stay_cons (fun _ _ _ _ _ => trivial) (stay_cons (fun _ _ _ _ _ => trivial) (stay_nil))))))))) i v w w' h hb
  have hs0 : ∀ i v (w w' : World) b cs, K i v w → Blk w b 27 cs → w.grownBy w' (some b) → K i v w' := by rw [hK]; exact fun i v w w' b cs h hB hg => known_stays (L := [fun v _ => v = .agg #[.slice (some ⟨bA, oA, none⟩) n cU, .slice (some ⟨bB, oB, none⟩) n cW, .int .i64 st], fun v w => SgH w W4.heap.size n v (initC P n st) false, fun v _ => v = .agg #[.slice (some ⟨bA, oA, none⟩) n cU, .slice (some ⟨bB, oB, none⟩) n cW, .int .i64 st], fun v w => CtH w W4.heap.size n v (initC P n st), fun _ _ => True, fun _ _ => True, fun _ _ => True, fun _ _ => True]) (R := fun w w' => ∃ b cs, Blk w b 27 cs ∧ w.grownBy w' (some b)) (stay_cons (stays_v _) (stay_cons (fun v w w1 h hb => by obtain ⟨b, cs, hB, hg⟩ := hb; exact SgH.stored_sg h hB hg) (stay_cons (stays_v _) (stay_cons (fun v w w1 h hb => by obtain ⟨b, cs, hB, hg⟩ := hb; exact CtH.stored_sg h hB hg) (stay_cons (fun _ _ _ _ _ => trivial) (stay_cons (fun _ _ _ _ _ => trivial) (stay_cons (fun _ _ _ _ _ => trivial) (stay_cons (fun _ _ _ _ _ => trivial) (stay_nil))))))))) i v w w' h ⟨b, cs, hB, hg⟩
  have hs1 : ∀ i v (w w' : World) b cs, K i v w → Blk w b 25 cs → w.grownBy w' (some b) → K i v w' := by rw [hK]; exact fun i v w w' b cs h hB hg => known_stays (L := [fun v _ => v = .agg #[.slice (some ⟨bA, oA, none⟩) n cU, .slice (some ⟨bB, oB, none⟩) n cW, .int .i64 st], fun v w => SgH w W4.heap.size n v (initC P n st) false, fun v _ => v = .agg #[.slice (some ⟨bA, oA, none⟩) n cU, .slice (some ⟨bB, oB, none⟩) n cW, .int .i64 st], fun v w => CtH w W4.heap.size n v (initC P n st), fun _ _ => True, fun _ _ => True, fun _ _ => True, fun _ _ => True]) (R := fun w w' => ∃ b cs, Blk w b 25 cs ∧ w.grownBy w' (some b)) (stay_cons (stays_v _) (stay_cons (fun v w w1 h hb => by obtain ⟨b, cs, hB, hg⟩ := hb; exact SgH.stored_ct h hB hg) (stay_cons (stays_v _) (stay_cons (fun v w w1 h hb => by obtain ⟨b, cs, hB, hg⟩ := hb; exact CtH.stored_ct h hB hg) (stay_cons (fun _ _ _ _ _ => trivial) (stay_cons (fun _ _ _ _ _ => trivial) (stay_cons (fun _ _ _ _ _ => trivial) (stay_cons (fun _ _ _ _ _ => trivial) (stay_nil))))))))) i v w w' h ⟨b, cs, hB, hg⟩
  have K0 : ∀ v w, K 0 v w ↔ (fun v _ => v = .agg #[.slice (some ⟨bA, oA, none⟩) n cU, .slice (some ⟨bB, oB, none⟩) n cW, .int .i64 st] : Value → World → Prop) v w := fun v w => by rw [hK]; exact Iff.rfl
  have K1 : ∀ v w, K 1 v w ↔ (fun v w => SgH w W4.heap.size n v (initC P n st) false : Value → World → Prop) v w := fun v w => by rw [hK]; exact Iff.rfl
  have K2 : ∀ v w, K 2 v w ↔ (fun v _ => v = .agg #[.slice (some ⟨bA, oA, none⟩) n cU, .slice (some ⟨bB, oB, none⟩) n cW, .int .i64 st] : Value → World → Prop) v w := fun v w => by rw [hK]; exact Iff.rfl
  have K3 : ∀ v w, K 3 v w ↔ (fun v w => CtH w W4.heap.size n v (initC P n st) : Value → World → Prop) v w := fun v w => by rw [hK]; exact Iff.rfl
  have K4 : ∀ v w, K 4 v w ↔ (fun _ _ => True : Value → World → Prop) v w := fun v w => by rw [hK]; exact Iff.rfl
  have K5 : ∀ v w, K 5 v w ↔ (fun _ _ => True : Value → World → Prop) v w := fun v w => by rw [hK]; exact Iff.rfl
  have K6 : ∀ v w, K 6 v w ↔ (fun _ _ => True : Value → World → Prop) v w := fun v w => by rw [hK]; exact Iff.rfl
  have K7 : ∀ v w, K 7 v w ↔ (fun _ _ => True : Value → World → Prop) v w := fun v w => by rw [hK]; exact Iff.rfl
  clear hK
  refine wp_region_invs 8 54 (TwoB W4 K 4 6 1 5 7 3 27 25 #[.slice none 0 0, .int .i64 0, .slice none 0 0, .int .i64 0, .bool false] #[.slice none 0 0, .int .i64 0, .slice none 0 0, .int .i64 0]) (by kernel_rfl) (fun _ _ d _ _ h => by cases d <;> exact h) rfl (by kernel_rfl) (fun vs => TwoB.start vs) ?_ ?_
  · intro k' o hk' ho
    have hk6 : k' = 0 ∨ k' = 1 ∨ k' = 2 ∨ k' = 3 ∨ k' = 4 ∨ k' = 5 ∨ k' = 6 ∨ k' = 7 := by omega
    rcases hk6 with rfl | rfl | rfl | rfl | rfl | rfl | rfl | rfl
    · obtain rfl := Option.some.inj ho
      intro lst vs ev xw hJ hl hc hf hfr hd
      have e5 : ev (.tmp 5) = .pointer (some ⟨gj, 0, none⟩) := hfr 5 (frm_of (by kernel_rfl))
      have hb := hJ.grew
      clear hfr hd 
      have k0 := (BJ.low hb (Nat.lt_of_lt_of_eq hgjB HBB.out.symm)).at 0 rfl
      have k1 := (BJ.low hb (Nat.lt_of_lt_of_eq hgjB HBB.out.symm)).at 1 rfl
      have k2 := (BJ.low hb (Nat.lt_of_lt_of_eq hgjB HBB.out.symm)).at 2 rfl
      refine opS_hid (fun Rp HR => ?_)
      unfold OpS
      go_simp
      rw [HR.out]
      exact hJ.op hg hl (by decide) (by decide) (by decide) (by decide) (Below.refl _ _) ((K0 _ _).2 rfl)
    · obtain rfl := Option.some.inj ho
      intro lst vs ev xw hJ hl hc hf hfr hd
      have d18 := hd 0 18 (by kernel_rfl) rfl
      have e18 : ev (.tmp 18) = .agg #[.slice (some ⟨bA, oA, none⟩) n cU, .slice (some ⟨bB, oB, none⟩) n cW, .int .i64 st] := d18.2.trans ((K0 _ _).1 (hJ.known 0 d18.1))
      have hb := hJ.grew
      clear hfr hd d18
      refine opS_hid (fun Rp HR => ?_)
      unfold OpS
      go_simp
      refine (jnew_any (some ⟨bA, oA, none⟩) (some ⟨bB, oB, none⟩) cU cW n P st xw HN.out (hP4.low (Below.mono hb hBW) hBW) h1 (by omega)).mono ?_
      rintro e w'' ⟨v, rfl, hw, hh⟩
      refine ⟨_, rfl, ?_⟩
      rw [HR.out]
      exact hJ.op hg hl (by decide) (by decide) (by decide) (by decide) hw ((K1 _ _).2 (hh.lower (Below.size hb)))
    · obtain rfl := Option.some.inj ho
      intro lst vs ev xw hJ hl hc hf hfr hd
      have e5 : ev (.tmp 5) = .pointer (some ⟨gj, 0, none⟩) := hfr 5 (frm_of (by kernel_rfl))
      have hb := hJ.grew
      clear hfr hd 
      have k0 := (BJ.low hb (Nat.lt_of_lt_of_eq hgjB HBB.out.symm)).at 0 rfl
      have k1 := (BJ.low hb (Nat.lt_of_lt_of_eq hgjB HBB.out.symm)).at 1 rfl
      have k2 := (BJ.low hb (Nat.lt_of_lt_of_eq hgjB HBB.out.symm)).at 2 rfl
      refine opS_hid (fun Rp HR => ?_)
      unfold OpS
      go_simp
      rw [HR.out]
      exact hJ.op hg hl (by decide) (by decide) (by decide) (by decide) (Below.refl _ _) ((K2 _ _).2 rfl)
    · obtain rfl := Option.some.inj ho
      intro lst vs ev xw hJ hl hc hf hfr hd
      have d20 := hd 2 20 (by kernel_rfl) rfl
      have e20 : ev (.tmp 20) = .agg #[.slice (some ⟨bA, oA, none⟩) n cU, .slice (some ⟨bB, oB, none⟩) n cW, .int .i64 st] := d20.2.trans ((K2 _ _).1 (hJ.known 2 d20.1))
      have hb := hJ.grew
      clear hfr hd d20
      refine opS_hid (fun Rp HR => ?_)
      unfold OpS
      go_simp
      refine (init_any (some ⟨bA, oA, none⟩) (some ⟨bB, oB, none⟩) cU cW n n P st xw HN.out (hP4.low (Below.mono hb hBW) hBW) h1 (by omega)).mono ?_
      rintro e w'' ⟨v, rfl, hw, hh⟩
      refine ⟨_, rfl, ?_⟩
      rw [HR.out]
      exact hJ.op hg hl (by decide) (by decide) (by decide) (by decide) hw ((K3 _ _).2 (hh.lower (Below.size hb)))
    · obtain rfl := Option.some.inj ho
      intro lst vs ev xw hJ hl hc hf hfr hd
      have hb := hJ.grew
      clear hfr hd 
      refine opS_hid (fun Rp HR => ?_)
      unfold OpS
      go_simp
      rw [HR.out]
      exact hJ.lay1 hg hl (by decide) (fun v w => (K4 v w).2 trivial)
    · obtain rfl := Option.some.inj ho
      intro lst vs ev xw hJ hl hc hf hfr hd
      have hb := hJ.grew
      clear hfr hd 
      refine opS_hid (fun Rp HR => ?_)
      unfold OpS
      go_simp
      rw [HR.out]
      exact hJ.lay2 hg hl (by decide) (fun v w => (K5 v w).2 trivial)
    · obtain rfl := Option.some.inj ho
      intro lst vs ev xw hJ hl hc hf hfr hd
      have d6 := hd 4 6 (by kernel_rfl) rfl
      have d19 := hd 1 19 (by kernel_rfl) rfl
      obtain ⟨gl19, cl19, gx19, cx19, e19, h19⟩ : SgH xw W4.heap.size n (vs 1) (initC P n st) false := (K1 _ _).1 (hJ.known 1 d19.1)
      have x19 := d19.2.trans e19
      have hb := hJ.grew
      obtain ⟨bb, e1, e2, hB⟩ := hJ.at1 d6.1 hl
      have e6 := d6.2.trans e1
      have hB : Blk xw bb 27 #[.slice none 0 0, .int .i64 0, .slice none 0 0, .int .i64 0, .bool false] := hB
      refine opS_store_sg rfl e6 x19 hB ?_
      intro w' hst hgr
      exact hJ.store1 hs0 hl d6.1 d19.1 (by decide) (fun v w => (K6 v w).2 trivial) e1 e19 hgr hst
    · obtain rfl := Option.some.inj ho
      intro lst vs ev xw hJ hl hc hf hfr hd
      have d7 := hd 5 7 (by kernel_rfl) rfl
      have d21 := hd 3 21 (by kernel_rfl) rfl
      obtain ⟨gl21, cl21, gx21, cx21, e21, h21⟩ : CtH xw W4.heap.size n (vs 3) (initC P n st) := (K3 _ _).1 (hJ.known 3 d21.1)
      have x21 := d21.2.trans e21
      have hb := hJ.grew
      obtain ⟨bb, e1, e2, hB⟩ := hJ.at2 d7.1 hl
      have e7 := d7.2.trans e1
      have hB : Blk xw bb 25 #[.slice none 0 0, .int .i64 0, .slice none 0 0, .int .i64 0] := hB
      refine opS_store_ct rfl e7 x21 hB ?_
      intro w' hst hgr
      exact hJ.store2 hs1 hl d7.1 d21.1 (by decide) (fun v w => (K7 v w).2 trivial) e1 e21 hgr hst
  · intro vs w5 hJ
    obtain ⟨g1, g2, cs1, cs2, k_a1, k_a2, hg1, hg2, hne, k_f1, k_f2, X1, X2⟩ := hJ.fin rfl rfl rfl rfl
    have hb5 := hJ.grew
    have k0 : vs 0 = .agg #[.slice (some ⟨bA, oA, none⟩) n cU, .slice (some ⟨bB, oB, none⟩) n cW, .int .i64 st] := (K0 _ _).1 (hJ.known 0 rfl)
    have k2 : vs 2 = .agg #[.slice (some ⟨bA, oA, none⟩) n cU, .slice (some ⟨bB, oB, none⟩) n cW, .int .i64 st] := (K2 _ _).1 (hJ.known 2 rfl)
    simp only [List.take_succ_cons, List.take_zero, List.drop_succ_cons, List.drop_zero, putAll, Act.put, List.setIfInBounds_toArray, List.set_cons_zero, List.set_cons_succ, k0, k2, k_a1, k_a2, Nat.reduceAdd, Nat.reduceSub]
    obtain ⟨gl, cl, gx, cx, q1, ⟨hgl, hcl⟩, hgx, L5, N5⟩ := (K1 _ _).1 (hJ.known 1 rfl)
    obtain ⟨hl_, cm, hx, cy, q2, ⟨hgl3, hcl3⟩, hgx3, M5, O5⟩ := (K3 _ _).1 (hJ.known 3 rfl)
    rw [q1] at k_f1
    obtain rfl := (Value.agg.inj k_f1).symm
    rw [q2] at k_f2
    obtain rfl := (Value.agg.inj k_f2).symm
    clear hJ k_f1 k_f2 hg hs0 hs1
    simp only [q1, q2]
    clear q1 q2
    unfold wpList
    have hB5 : Below B W4 w5 := HBB.out ▸ hb5
    have hv0 : CtV P C n st (initC P n st) := init_v h1 hjc.st.1 hjc.gr
    have S5 : StdJ W4 w5 B g1 g2 n (initC P n st) := ⟨⟨gl, cl, gx, cx, X1, L5, N5⟩, ⟨hl_, cm, hx, cy, X2, M5, O5⟩, hB5⟩
    have hg1B : B ≤ g1 := by have := HBB.out; omega
    have hg2B : B ≤ g2 := by have := HBB.out; omega
    clear L5 N5 M5 O5 X1 X2 hb5 hB5 hgl hgx hgl3 hgx3 hcl hcl3 hg1 hg2 hne
    go_wp2_with fail
    go_loopw [24] (fun v wr => ∃ (i : Nat) (c : Ct), i ≤ ts.length ∧ v = .int .i64 (i : Nat) ∧ StdJ W4 wr B g1 g2 n c ∧ CtV P C n st c) (fun v _ => ts.length - (intOf v).toNat)
    case atStart => exact ⟨0, _, Nat.zero_le _, rfl, S5, hv0⟩
    case round =>
      obtain ⟨i, c, hi, rfl, hS, hvc⟩ := hrel
      clear S5 hv0
      by_cases hlt : i < ts.length
      · as_aux_lemma =>
        have hltZ : (i : Int) < ts.length := by omega
        obtain ⟨bT, oT, rfl, hbT, hcT⟩ := hsm (by omega)
        obtain ⟨x, hx⟩ : ∃ x, at_ ts i = x := ⟨_, rfl⟩
        have hxb : -9223372036854775808 ≤ x ∧ x ≤ 9223372036854775807 := by rw [← hx]; exact hnm _ (by simp [at_, hlt])
        obtain ⟨⟨gl, cl, gx, cx, Sr, Lr, Nr⟩, ⟨hl_, cm, hx_, cy, Cr, Mr, Or⟩, Br⟩ := hS
        have t0 := (Br.cell (p := ⟨bT, oT + i, none⟩) hbT).trans (hcT i hlt)
        rw [hx] at t0
        clear hcT hx
        have Jr := BJ.low Br hgjB
        have j0 := Jr.at 0 rfl
        have hBr : B ≤ wr.heap.size := Nat.le_trans hBW Br.size
        obtain ⟨k, hk, hkn⟩ := modI_nat' x ((n : Int) + 1) (by omega)
        have HMD := Lib.hid hk
        have zw : IntKind.i64.wrap ((n : Int) + 1) = (n : Int) + 1 := by rw [IntKind.wrap_i64]; omega
        have zw2 : IntKind.i64.wrap ((k : Nat) - 1) = ((k : Nat) - 1 : Int) := by rw [IntKind.wrap_i64]; omega
        have hvs := step_v hjc.rows hvc h1 hjc.pok hjc.ri hjc.gr ((k : Nat) - 1)
        obtain ⟨s, hss⟩ : ∃ s, stepC P C n c ((k : Nat) - 1) = s := ⟨_, rfl⟩
        rw [hss] at hvs
        have HSS := Lib.hid hss
        have HVC := Lib.hid hvc
        have HVS := Lib.hid hvs
        have HLI := Lib.hid hvs.li
        have HNX := Lib.hid hvs.nx
        have HFB := Lib.hid (show false = true ↔ Fb C (seenV s.li n (-1)) from ⟨(fun h => absurd h (by decide)), fun h => absurd h (quiet_none hjc.rows hvs)⟩)
        clear hk hss hvs hvc
        go_wp2_with fail
        refine (mod_k HMD.out (by omega) (by omega) (by omega) (by omega) _).mono ?_
        rintro e w8 ⟨rfl, rfl⟩
        go_wp2_with fail
        clear t0 j0 zw zw2
        refine wp_region_pre (R := Bl) 8 54 [fun v _ => v = .agg #[.slice (some ⟨bA, oA, none⟩) n cU, .slice (some ⟨bB, oB, none⟩) n cW, .int .i64 st], fun v _ => v = .agg #[.slice (some ⟨gl, 0, none⟩) n cl, .int .i64 (c).gr, .slice (some ⟨gx, 0, none⟩) 2 cx, .int .i64 (c).wt, .bool false], fun v _ => v = .int .i64 ((k : Nat) - 1), fun v w => SgH w wr.heap.size n (v) s false, fun v _ => v = .agg #[.slice (some ⟨bA, oA, none⟩) n cU, .slice (some ⟨bB, oB, none⟩) n cW, .int .i64 st], fun v _ => v = .agg #[.slice (some ⟨hl_, 0, none⟩) n cm, .int .i64 (c).gr, .slice (some ⟨hx_, 0, none⟩) 2 cy, .int .i64 (c).wt], fun v _ => v = .int .i64 ((k : Nat) - 1), fun v w => CtH w wr.heap.size n (v) s] (Bl.trans) (Bl.drew) (by kernel_rfl) (fun _ _ d _ _ h => by cases d <;> exact h) rfl (by kernel_rfl) (stay_cons (stays_v _) (stay_cons (stays_v _) (stay_cons (stays_v _) (stay_cons (fun v w w1 h hb => SgH.below h hb) (stay_cons (stays_v _) (stay_cons (stays_v _) (stay_cons (stays_v _) (stay_cons (fun v w w1 h hb => CtH.below h hb) (stay_nil))))))))) ?_ ?_
        · simp only [List.take_succ_cons, List.take_zero]
          refine steps_cons (Bl.refl) (fun ev xw hb hc hf hfr hd hr => ?_) ?_
          · have e5 : ev (.tmp 5) = .pointer (some ⟨gj, 0, none⟩) := hfr 5 (by kernel_rfl)
            clear hfr hd
            have k0 := (Jr.below hb).at 0 rfl
            have k1 := (Jr.below hb).at 1 rfl
            have k2 := (Jr.below hb).at 2 rfl
            show OpOk _ _ ev xw fun v w' => Bl xw w' ∧ (v = .agg #[.slice (some ⟨bA, oA, none⟩) n cU, .slice (some ⟨bB, oB, none⟩) n cW, .int .i64 st])
            refine opOk_hid (fun Rp HR => ?_)
            unfold OpOk
            go_simp
            rw [HR.out]
            exact ⟨hr, rfl⟩
          refine steps_cons (Bl.refl) (fun ev xw hb hc hf hfr hd hr => ?_) ?_
          · have e6 : ev (.tmp 6) = .pointer (some ⟨g1, 0, none⟩) := hfr 6 (by kernel_rfl)
            clear hfr hd
            have k0 := (Sr.below hb).at 0 rfl
            have k1 := (Sr.below hb).at 1 rfl
            have k2 := (Sr.below hb).at 2 rfl
            have k3 := (Sr.below hb).at 3 rfl
            have k4 := (Sr.below hb).at 4 rfl
            show OpOk _ _ ev xw fun v w' => Bl xw w' ∧ (v = .agg #[.slice (some ⟨gl, 0, none⟩) n cl, .int .i64 (c).gr, .slice (some ⟨gx, 0, none⟩) 2 cx, .int .i64 (c).wt, .bool false])
            refine opOk_hid (fun Rp HR => ?_)
            unfold OpOk
            go_simp
            rw [HR.out]
            exact ⟨hr, rfl⟩
          refine steps_cons (Bl.refl) (fun ev xw hb hc hf hfr hd hr => ?_) ?_
          · have e10 : ev (.tmp 10) = .int .i64 ((k : Nat) - 1) := hfr 10 (by kernel_rfl)
            clear hfr hd
            show OpOk _ _ ev xw fun v w' => Bl xw w' ∧ (v = .int .i64 ((k : Nat) - 1))
            refine opOk_hid (fun Rp HR => ?_)
            unfold OpOk
            go_simp
            rw [HR.out]
            exact ⟨hr, rfl⟩
          refine steps_cons (Bl.refl) (fun ev xw hb hc hf hfr hd hr => ?_) ?_
          · have e35 : ev (.tmp 35) = .agg #[.slice (some ⟨bA, oA, none⟩) n cU, .slice (some ⟨bB, oB, none⟩) n cW, .int .i64 st] := hd 0 35 (by kernel_rfl)
            have e36 : ev (.tmp 36) = .agg #[.slice (some ⟨gl, 0, none⟩) n cl, .int .i64 (c).gr, .slice (some ⟨gx, 0, none⟩) 2 cx, .int .i64 (c).wt, .bool false] := hd 1 36 (by kernel_rfl)
            have e37 : ev (.tmp 37) = .int .i64 ((k : Nat) - 1) := hd 2 37 (by kernel_rfl)
            clear hfr hd
            show OpOk _ _ ev xw fun v w' => Bl xw w' ∧ (SgH w' wr.heap.size n (v) s false)
            refine opOk_hid (fun Rp HR => ?_)
            unfold OpOk
            go_simp
            refine (jstep_s (some ⟨bA, oA, none⟩) (some ⟨bB, oB, none⟩) (some ⟨gl, 0, none⟩) (some ⟨gx, 0, none⟩) cU cW cl cx n P C c s st ((k : Nat) - 1) (-1) false xw HSS.out hjc hjv HVC.out (hP4.low (Br.trans (Below.mono hb hBr)) hBW) (hI4.low (Br.trans (Below.mono hb hBr)) hBW) hcU (Lr.below hb).prs (Nr.below hb).ints HFB.out).mono ?_
            rintro e w'' ⟨v, rfl, hw, hh⟩
            refine ⟨_, rfl, ?_⟩
            rw [HR.out]
            exact ⟨hw, hh.lower (Below.size hb)⟩
          refine steps_cons (Bl.refl) (fun ev xw hb hc hf hfr hd hr => ?_) ?_
          · have e5 : ev (.tmp 5) = .pointer (some ⟨gj, 0, none⟩) := hfr 5 (by kernel_rfl)
            clear hfr hd
            have k0 := (Jr.below hb).at 0 rfl
            have k1 := (Jr.below hb).at 1 rfl
            have k2 := (Jr.below hb).at 2 rfl
            show OpOk _ _ ev xw fun v w' => Bl xw w' ∧ (v = .agg #[.slice (some ⟨bA, oA, none⟩) n cU, .slice (some ⟨bB, oB, none⟩) n cW, .int .i64 st])
            refine opOk_hid (fun Rp HR => ?_)
            unfold OpOk
            go_simp
            rw [HR.out]
            exact ⟨hr, rfl⟩
          refine steps_cons (Bl.refl) (fun ev xw hb hc hf hfr hd hr => ?_) ?_
          · have e7 : ev (.tmp 7) = .pointer (some ⟨g2, 0, none⟩) := hfr 7 (by kernel_rfl)
            clear hfr hd
            have k0 := (Cr.below hb).at 0 rfl
            have k1 := (Cr.below hb).at 1 rfl
            have k2 := (Cr.below hb).at 2 rfl
            have k3 := (Cr.below hb).at 3 rfl
            show OpOk _ _ ev xw fun v w' => Bl xw w' ∧ (v = .agg #[.slice (some ⟨hl_, 0, none⟩) n cm, .int .i64 (c).gr, .slice (some ⟨hx_, 0, none⟩) 2 cy, .int .i64 (c).wt])
            refine opOk_hid (fun Rp HR => ?_)
            unfold OpOk
            go_simp
            rw [HR.out]
            exact ⟨hr, rfl⟩
          refine steps_cons (Bl.refl) (fun ev xw hb hc hf hfr hd hr => ?_) ?_
          · have e10 : ev (.tmp 10) = .int .i64 ((k : Nat) - 1) := hfr 10 (by kernel_rfl)
            clear hfr hd
            show OpOk _ _ ev xw fun v w' => Bl xw w' ∧ (v = .int .i64 ((k : Nat) - 1))
            refine opOk_hid (fun Rp HR => ?_)
            unfold OpOk
            go_simp
            rw [HR.out]
            exact ⟨hr, rfl⟩
          refine steps_cons (Bl.refl) (fun ev xw hb hc hf hfr hd hr => ?_) ?_
          · have e39 : ev (.tmp 39) = .agg #[.slice (some ⟨bA, oA, none⟩) n cU, .slice (some ⟨bB, oB, none⟩) n cW, .int .i64 st] := hd 4 39 (by kernel_rfl)
            have e40 : ev (.tmp 40) = .agg #[.slice (some ⟨hl_, 0, none⟩) n cm, .int .i64 (c).gr, .slice (some ⟨hx_, 0, none⟩) 2 cy, .int .i64 (c).wt] := hd 5 40 (by kernel_rfl)
            have e41 : ev (.tmp 41) = .int .i64 ((k : Nat) - 1) := hd 6 41 (by kernel_rfl)
            clear hfr hd
            show OpOk _ _ ev xw fun v w' => Bl xw w' ∧ (CtH w' wr.heap.size n (v) s)
            refine opOk_hid (fun Rp HR => ?_)
            unfold OpOk
            go_simp
            refine (cstep_any (some ⟨bA, oA, none⟩) (some ⟨bB, oB, none⟩) (some ⟨hl_, 0, none⟩) (some ⟨hx_, 0, none⟩) cU cW cm cy n P C c st ((k : Nat) - 1) xw hjc HVC.out (hP4.low (Br.trans (Below.mono hb hBr)) hBW) (hI4.low (Br.trans (Below.mono hb hBr)) hBW) (Mr.below hb).prs (Or.below hb).ints).mono ?_
            rintro e w'' ⟨v, rfl, hw, hh⟩
            refine ⟨_, rfl, ?_⟩
            rw [HR.out]
            rw [HSS.out] at hh
            exact ⟨hw, hh.lower (Below.size hb)⟩
          exact steps_nil
        · intro vs W11 hb11 hk
          obtain ⟨gl3, cl3, gx3, cx3, k3, _, _, L11, N11⟩ : SgH W11 wr.heap.size n (vs 3) s false := hk 3 (by omega)
          obtain ⟨gl4, cl4, gx4, cx4, k7, _, _, M11, O11⟩ : CtH W11 wr.heap.size n (vs 7) s := hk 7 (by omega)
          clear hk
          simp only [List.take_succ_cons, List.take_zero, List.drop_succ_cons, List.drop_zero, putAll, Act.put, List.setIfInBounds_toArray, List.set_cons_zero, List.set_cons_succ, k3, k7, Nat.reduceAdd, Nat.reduceSub]
          have S11 := Sr.below hb11
          have C11 := Cr.below hb11
          have B11 : Below B W4 W11 := Br.trans (Below.mono hb11 hBr)
          have hg12 : g1 ≠ g2 := S11.ne_sgct C11
          clear Sr Cr Br Jr Lr Nr Mr Or hb11 k3 k7
          unfold wpList
          refine step_store_sg (by rfl) (by rfl) (by rfl) (by rfl) (by rfl) S11 ?_
          intro W12 S12 hg12s
          have C12 := C11.grown hg12s (by intro e; injection e with e; exact hg12 e)
          have hlg := L11.ne_sg S11
          have hxg := N11.ne_sg S11
          have hmg := M11.ne_sg S11
          have hog := O11.ne_sg S11
          have L12 := L11.grown hg12s (by intro e; injection e with e; exact hlg e.symm)
          have N12 := N11.grown hg12s (by intro e; injection e with e; exact hxg e.symm)
          have M12 := M11.grown hg12s (by intro e; injection e with e; exact hmg e.symm)
          have O12 := O11.grown hg12s (by intro e; injection e with e; exact hog e.symm)
          have B12 := B11.grown hg12s (Nat.le_trans hBW B11.size) (fun k e => by injection e with e; omega)
          refine step_store_ct (by rfl) (by rfl) (by rfl) (by rfl) (by rfl) C12 ?_
          intro W13 C13 hg13s
          have S13 := S12.grown hg13s (by intro e; injection e with e; exact hg12 e.symm)
          have hlg := L12.ne_ct C12
          have hxg := N12.ne_ct C12
          have hmg := M12.ne_ct C12
          have hog := O12.ne_ct C12
          have L13 := L12.grown hg13s (by intro e; injection e with e; exact hlg e.symm)
          have N13 := N12.grown hg13s (by intro e; injection e with e; exact hxg e.symm)
          have M13 := M12.grown hg13s (by intro e; injection e with e; exact hmg e.symm)
          have O13 := O12.grown hg13s (by intro e; injection e with e; exact hog e.symm)
          have B13 := B12.grown hg13s (Nat.le_trans hBW B12.size) (fun k e => by injection e with e; omega)
          clear L11 N11 M11 O11 L12 N12 M12 O12 S11 S12 C11 C12 B11 B12 hg12s hg13s hlg hxg hmg hog hg12
          have s0 := S13.at 0 rfl; have s1 := S13.at 1 rfl; have s2 := S13.at 2 rfl; have s3 := S13.at 3 rfl; have s4 := S13.at 4 rfl
          have c0 := C13.at 0 rfl; have c1 := C13.at 1 rfl; have c2 := C13.at 2 rfl; have c3 := C13.at 3 rfl
          unfold wpList
          go_wp2_with fail
          refine (same_t gl3 cl3 gx3 cx3 gl4 cl4 gx4 cx4 n s W13 HLI.out HNX.out (by omega) L13 N13 M13 O13).mono ?_
          rintro e w14 ⟨rfl, b14⟩
          clear s0 s1 s2 s3 s4 c0 c1 c2 c3
          have B14 := B13.trans (b14.mono (Nat.le_trans hBW B13.size))
          go_wp2
          go_roundw
          case rel => exact ⟨i + 1, s, hlt, by go_num, ⟨⟨gl3, cl3, gx3, cx3, S13.below b14, L13.below b14, N13.below b14⟩, ⟨gl4, cl4, gx4, cx4, C13.below b14, M13.below b14, O13.below b14⟩, B14⟩, HVS.out⟩
          case measure => simp [intOf]; omega
      · as_aux_lemma =>
        have hltZ : ¬ (i : Int) < ts.length := by omega
        have hBr : Below B W4 wr := hS.2.2
        go_wp2_with fail
        refine (awake_any _).mono ?_
        rintro e w2 ⟨rfl, hb⟩
        go_wp2
        go_ret
        exact ⟨rfl, hb4.trans ((hBr.mono hwB).trans (hb.mono (Nat.le_trans hb4.size hBr.size)))⟩
end Go.Proofs.Ytncmikkobngfeaa
