/-
  The law RecordCounts answers true: its walk. Conditions: none.
-/
import Derived.Test.YtmgifmdpjlefcaaAk
namespace Go.Proofs.Ytmgifmdpjlefcaa
open Go.ChangeShapes Go.WideShapes Go.ChangeAt Go.RowKit
set_option linter.unusedVariables false

def mixL (f : Nat → Int) (K : List Int) (n i : Nat) : List Int := (List.range n).map fun j => if j < i then f j else at_ K j
theorem mix_len (f : Nat → Int) (K : List Int) (n i : Nat) : (mixL f K n i).length = n := by simp [mixL]
theorem mix_zero (f : Nat → Int) (K : List Int) (n : Nat) (h : K.length = n) : mixL f K n 0 = K := by
  apply List.ext_getElem
  · simp [mixL, h]
  · intro j h1 h2
    simp [mixL, at_, h2]
theorem mix_at (f : Nat → Int) (K : List Int) {n i j : Nat} (h : j < n) : at_ (mixL f K n i) j = if j < i then f j else at_ K j := by
  have e : (mixL f K n i)[j]? = some (if j < i then f j else at_ K j) := by simp [mixL, h]
  show ((mixL f K n i)[j]?).getD 0 = _
  rw [e]; rfl
theorem mix_set (f : Nat → Int) (K : List Int) {n i : Nat} (h : i < n) : (mixL f K n i).set i (f i) = mixL f K n (i + 1) := by
  apply List.ext_getElem
  · simp [mixL]
  · intro j h1 h2
    simp only [mixL, List.getElem_set, List.getElem_map, List.getElem_range]
    by_cases e : i = j
    · subst e; simp
    · rw [if_neg e]
      by_cases e2 : j < i
      · rw [if_pos e2, if_pos (by omega)]
      · rw [if_neg e2, if_neg (by omega)]
theorem CtH.base {w : World} {B B' n : Nat} {v : Value} {c : Ct} (h : CtH w B n v c) (hB : B' ≤ B) : CtH w B' n v c := by
  obtain ⟨gl, cl, gx, cx, h1, ⟨h2, h2'⟩, h3, h4, h5⟩ := h
  exact ⟨gl, cl, gx, cx, h1, ⟨by omega, h2'⟩, by omega, h4, h5⟩
/-- What is kept of the last view: where a count is not yet used up, the color is that of the light. -/
def KO (P : List Ph) (c : Ct) (K O : List Int) (n : Nat) : Prop := ∀ p, p < n → 0 < at_ K p → at_ O p = colV (lmp c.li p) ∧ 0 < countV (phAt P p) (lmp c.li p) (tck c.li p)
set_option maxRecDepth 100000 in
set_option maxHeartbeats 8000000 in
theorem counts_any (A0 : Option Addr) (cA : Nat) (l : List Int) (B0 : Option Addr) (cB : Nat) (m : List Int) (w : World) (hs : Ints .i64 w w.heap.size A0 l) (hn : Nums l) (hl : l.length ≤ 9223372036854775807) (hsm0 : Ints .i64 w w.heap.size B0 m) (hnm : Nums m) (hlm : m.length ≤ 9223372036854775807) :
    Calls Try.prog 7 #[.slice A0 l.length cA, .slice B0 m.length cB] w fun e w' => e = .returned (.bool true) ∧ Below w.heap.size w w' := by
  by_cases h80 : 80 < m.length
  · have hZ : (80 : Int) < m.length := by omega
    go_enter Try.func7, Try.ntmps7
    go_wp2_with fail
    refine (awake_any _).mono ?_
    rintro e w1 ⟨rfl, hb1⟩
    go_wp2
    go_ret
    exact ⟨rfl, hb1⟩
  have hZ : ¬ (80 : Int) < m.length := by omega
  go_enter Try.func7, Try.ntmps7
  go_wp2_with fail
  refine (new_ok A0 l cA _ hs hn hl).mono ?_
  rintro e w2 ⟨rfl, hdk, hb2, hlt2⟩
  go_wp2_with fail
  refine (junction_any w.heap.size w2 hdk).mono ?_
  rintro e w3 ⟨hgr, hdk3, q, st, ex, P, A1, B1, c1, d1, rfl, hj, hP, hI, hA1, hB1, hc1, hd1⟩
  have hb3 := hgr.base hb2 (Nat.le_refl _)
  have hjc := junC_drawn hj
  obtain ⟨n, hnn⟩ : ∃ n, P.length = n := ⟨_, rfl⟩
  obtain ⟨C, hCC⟩ : ∃ C, rowsL P ex = C := ⟨_, rfl⟩
  rw [hnn, hCC] at hjc
  rw [hCC] at hI
  rw [hnn] at hc1 hd1 ⊢
  have HN := Lib.hid hnn
  have HRC := Lib.hid hjc.rows.len
  clear hnn hCC hgr hdk hdk3 hb2 hj hA1 hB1
  have h1 := hjc.h1
  have h8 := hjc.h8
  have HJC := Lib.hid hjc
  obtain ⟨bA, oA, rfl, hbA, _⟩ := hP (by have := HN.out; omega)
  obtain ⟨bB, oB, rfl, hbB, _⟩ := hI (by have := HRC.out; omega)
  have bJ := lat_alloc (Below.refl w3.heap.size w3) (.cells #[.slice (some ⟨bA, oA, none⟩) n c1, .slice (some ⟨bB, oB, none⟩) n d1, .int .i64 st] 29)
  have BJ := Blk.new (w := w3) (t := 29) (cs := #[.slice (some ⟨bA, oA, none⟩) n c1, .slice (some ⟨bB, oB, none⟩) n d1, .int .i64 st])
  have hI4 := hI.grow bJ
  have hP4 := hP.grow bJ
  have hb4 := hb3.trans (bJ.mono hb3.size)
  have hsm := (hsm0.below hb4).more hb4.size
  have HGC := Lib.hid (heap_size w3 (.cells #[.slice (some ⟨bA, oA, none⟩) n c1, .slice (some ⟨bB, oB, none⟩) n d1, .int .i64 st] 29))
  go_wp2_with fail
  generalize w3.alloc (.cells #[.slice (some ⟨bA, oA, none⟩) n c1, .slice (some ⟨bB, oB, none⟩) n d1, .int .i64 st] 29) = W4 at *
  generalize w3.heap.size = gj at *
  clear bJ hI hP hb3 hs hsm0 hjc
  obtain ⟨B, hBB⟩ : ∃ B, W4.heap.size = B := ⟨_, rfl⟩
  have HBB := Lib.hid hBB
  have hgjB : gj < B := by have := HGC.out; omega
  have hbAB : bA < B := by have := HGC.out; omega
  have hbBB : bB < B := by have := HGC.out; omega
  have hin := init_any (some ⟨bA, oA, none⟩) (some ⟨bB, oB, none⟩) c1 d1 n n P st W4 HN.out hP4 h1 (by omega)
  rw [hBB] at hI4 hP4 hsm hin
  have hBW : B ≤ W4.heap.size := by omega
  clear hBB
  refine hin.mono ?_
  rintro e w5 ⟨v, rfl, hb5, gl, cl, gx, cx, rfl, ⟨hgl, hcl⟩, hgx, L5, X5⟩
  have HV := Lib.hid (init_v (C := C) (st := st) h1 HJC.out.st.1 HJC.out.gr)
  generalize initC P n st = c at *
  have bc := lat_alloc (Below.refl w5.heap.size w5) (.cells #[.slice (some ⟨gl, 0, none⟩) n cl, .int .i64 c.gr, .slice (some ⟨gx, 0, none⟩) 2 cx, .int .i64 c.wt] 32)
  have C6 := Blk.new (w := w5) (t := 32) (cs := #[.slice (some ⟨gl, 0, none⟩) n cl, .int .i64 c.gr, .slice (some ⟨gx, 0, none⟩) 2 cx, .int .i64 c.wt])
  have L6 := L5.below bc
  have X6 := X5.below bc
  have hlc := L5.lt
  have hxc := X5.lt
  have hb46 : Below B W4 (w5.alloc (.cells #[.slice (some ⟨gl, 0, none⟩) n cl, .int .i64 c.gr, .slice (some ⟨gx, 0, none⟩) 2 cx, .int .i64 c.wt] 32)) := hb5.trans (bc.mono (Nat.le_trans hBW hb5.size))
  have BJ6 := BJ.low hb46 hgjB
  have hgcB : B ≤ w5.heap.size := Nat.le_trans hBW hb5.size
  clear hin L5 X5 bc
  go_wp2_with fail
  generalize w5.alloc (.cells #[.slice (some ⟨gl, 0, none⟩) n cl, .int .i64 c.gr, .slice (some ⟨gx, 0, none⟩) 2 cx, .int .i64 c.wt] 32) = W at *
  generalize w5.heap.size = gc at *
  clear hb5
  refine wp_region_invs 10 125 (fun lst vs w => JMk W n 3 7 lst vs w ∧ (lst 0 = true → vs 0 = .pointer (some ⟨gj, 0, none⟩)) ∧ (lst 1 = true → vs 1 = .slice (some ⟨bA, oA, none⟩) n c1) ∧ (lst 2 = true → vs 2 = .int .i64 n) ∧ (lst 4 = true → vs 4 = .pointer (some ⟨gj, 0, none⟩)) ∧ (lst 5 = true → vs 5 = .slice (some ⟨bA, oA, none⟩) n c1) ∧ (lst 6 = true → vs 6 = .int .i64 n) ∧ (lst 8 = true → lst 3 = true ∧ vs 8 = vs 3) ∧ (lst 9 = true → lst 7 = true ∧ vs 9 = vs 7)) (by kernel_rfl) (fun _ _ d _ _ h => by cases d <;> exact h) rfl (by kernel_rfl) (fun vs => ⟨JMk.start vs, fun h => by (cases h), fun h => by (cases h), fun h => by (cases h), fun h => by (cases h), fun h => by (cases h), fun h => by (cases h), fun h => by (cases h), fun h => by (cases h)⟩) ?_ ?_
  · intro k' o hk' ho
    have hk6 : k' = 0 ∨ k' = 1 ∨ k' = 2 ∨ k' = 3 ∨ k' = 4 ∨ k' = 5 ∨ k' = 6 ∨ k' = 7 ∨ k' = 8 ∨ k' = 9 := by omega
    rcases hk6 with rfl | rfl | rfl | rfl | rfl | rfl | rfl | rfl | rfl | rfl
    · obtain rfl := Option.some.inj ho
      rintro lst vs ev xw ⟨hJ, v0, v1, v2, v4, v5, v6, v8, v9⟩ hl hc hf hfr hd
      have e5 : ev (.tmp 5) = .pointer (some ⟨gj, 0, none⟩) := hfr 5 (frm_of (by kernel_rfl))
      clear hfr hd
      refine opS_hid (fun Rp HR => ?_)
      unfold OpS
      go_simp
      rw [HR.out]
      exact ⟨hJ.other (by decide) (by decide), fun _ => rfl, by simpa using v1, by simpa using v2, by simpa using v4, by simpa using v5, by simpa using v6, by simpa using v8, by simpa using v9⟩
    · obtain rfl := Option.some.inj ho
      rintro lst vs ev xw ⟨hJ, v0, v1, v2, v4, v5, v6, v8, v9⟩ hl hc hf hfr hd
      have d22 := hd 0 22 (by kernel_rfl) rfl
      have e22 : ev (.tmp 22) = .pointer (some ⟨gj, 0, none⟩) := d22.2.trans (v0 d22.1)
      clear d22
      clear hfr hd
      have j0 := (BJ6.below hJ.grew).at 0 rfl
      refine opS_hid (fun Rp HR => ?_)
      unfold OpS
      go_simp
      rw [HR.out]
      exact ⟨hJ.other (by decide) (by decide), by simpa using v0, fun _ => rfl, by simpa using v2, by simpa using v4, by simpa using v5, by simpa using v6, by simpa using v8, by simpa using v9⟩
    · obtain rfl := Option.some.inj ho
      rintro lst vs ev xw ⟨hJ, v0, v1, v2, v4, v5, v6, v8, v9⟩ hl hc hf hfr hd
      have d23 := hd 1 23 (by kernel_rfl) rfl
      have e23 : ev (.tmp 23) = .slice (some ⟨bA, oA, none⟩) n c1 := d23.2.trans (v1 d23.1)
      clear d23
      clear hfr hd
      refine opS_hid (fun Rp HR => ?_)
      unfold OpS
      go_simp
      rw [HR.out]
      exact ⟨hJ.other (by decide) (by decide), by simpa using v0, by simpa using v1, fun _ => rfl, by simpa using v4, by simpa using v5, by simpa using v6, by simpa using v8, by simpa using v9⟩
    · obtain rfl := Option.some.inj ho
      rintro lst vs ev xw ⟨hJ, v0, v1, v2, v4, v5, v6, v8, v9⟩ hl hc hf hfr hd
      have d24 := hd 2 24 (by kernel_rfl) rfl
      have e24 : ev (.tmp 24) = .int .i64 n := d24.2.trans (v2 d24.1)
      clear d24
      clear hfr hd
      have hmk := make_int n (by omega) xw
      refine opS_hid (fun Rp HR => ?_)
      unfold OpS
      go_simp
      rw [HR.out]
      refine ⟨hJ.mk1 (by decide) hl (by omega) rfl, by simpa using v0, by simpa using v1, by simpa using v2, by simpa using v4, by simpa using v5, by simpa using v6, fun h8 => ?_, by simpa using v9⟩
      have h8 : lst 8 = true := by simpa using h8
      have := (v8 h8).1
      rw [hl] at this; cases this
    · obtain rfl := Option.some.inj ho
      rintro lst vs ev xw ⟨hJ, v0, v1, v2, v4, v5, v6, v8, v9⟩ hl hc hf hfr hd
      have e5 : ev (.tmp 5) = .pointer (some ⟨gj, 0, none⟩) := hfr 5 (frm_of (by kernel_rfl))
      clear hfr hd
      refine opS_hid (fun Rp HR => ?_)
      unfold OpS
      go_simp
      rw [HR.out]
      exact ⟨hJ.other (by decide) (by decide), by simpa using v0, by simpa using v1, by simpa using v2, fun _ => rfl, by simpa using v5, by simpa using v6, by simpa using v8, by simpa using v9⟩
    · obtain rfl := Option.some.inj ho
      rintro lst vs ev xw ⟨hJ, v0, v1, v2, v4, v5, v6, v8, v9⟩ hl hc hf hfr hd
      have d26 := hd 4 26 (by kernel_rfl) rfl
      have e26 : ev (.tmp 26) = .pointer (some ⟨gj, 0, none⟩) := d26.2.trans (v4 d26.1)
      clear d26
      clear hfr hd
      have j0 := (BJ6.below hJ.grew).at 0 rfl
      refine opS_hid (fun Rp HR => ?_)
      unfold OpS
      go_simp
      rw [HR.out]
      exact ⟨hJ.other (by decide) (by decide), by simpa using v0, by simpa using v1, by simpa using v2, by simpa using v4, fun _ => rfl, by simpa using v6, by simpa using v8, by simpa using v9⟩
    · obtain rfl := Option.some.inj ho
      rintro lst vs ev xw ⟨hJ, v0, v1, v2, v4, v5, v6, v8, v9⟩ hl hc hf hfr hd
      have d27 := hd 5 27 (by kernel_rfl) rfl
      have e27 : ev (.tmp 27) = .slice (some ⟨bA, oA, none⟩) n c1 := d27.2.trans (v5 d27.1)
      clear d27
      clear hfr hd
      refine opS_hid (fun Rp HR => ?_)
      unfold OpS
      go_simp
      rw [HR.out]
      exact ⟨hJ.other (by decide) (by decide), by simpa using v0, by simpa using v1, by simpa using v2, by simpa using v4, by simpa using v5, fun _ => rfl, by simpa using v8, by simpa using v9⟩
    · obtain rfl := Option.some.inj ho
      rintro lst vs ev xw ⟨hJ, v0, v1, v2, v4, v5, v6, v8, v9⟩ hl hc hf hfr hd
      have d28 := hd 6 28 (by kernel_rfl) rfl
      have e28 : ev (.tmp 28) = .int .i64 n := d28.2.trans (v6 d28.1)
      clear d28
      clear hfr hd
      have hmk := make_int n (by omega) xw
      refine opS_hid (fun Rp HR => ?_)
      unfold OpS
      go_simp
      rw [HR.out]
      refine ⟨hJ.mk2 (by decide) hl (by omega) rfl, by simpa using v0, by simpa using v1, by simpa using v2, by simpa using v4, by simpa using v5, by simpa using v6, by simpa using v8, fun h8 => ?_⟩
      have h8 : lst 9 = true := by simpa using h8
      have := (v9 h8).1
      rw [hl] at this; cases this
    · obtain rfl := Option.some.inj ho
      rintro lst vs ev xw ⟨hJ, v0, v1, v2, v4, v5, v6, v8, v9⟩ hl hc hf hfr hd
      have d25 := hd 3 25 (by kernel_rfl) rfl
      have h3 := d25.1
      have e25 : ev (.tmp 25) = vs 3 := d25.2
      clear hfr hd d25
      refine opS_hid (fun Rp HR => ?_)
      unfold OpS
      go_simp
      rw [HR.out]
      exact ⟨hJ.other (by decide) (by decide), by simpa using v0, by simpa using v1, by simpa using v2, by simpa using v4, by simpa using v5, by simpa using v6, fun _ => ⟨by simpa using h3, by first | rfl | simp [vOf]⟩, by simpa using v9⟩
    · obtain rfl := Option.some.inj ho
      rintro lst vs ev xw ⟨hJ, v0, v1, v2, v4, v5, v6, v8, v9⟩ hl hc hf hfr hd
      have d29 := hd 7 29 (by kernel_rfl) rfl
      have h3 := d29.1
      have e29 : ev (.tmp 29) = vs 7 := d29.2
      clear hfr hd d29
      refine opS_hid (fun Rp HR => ?_)
      unfold OpS
      go_simp
      rw [HR.out]
      exact ⟨hJ.other (by decide) (by decide), by simpa using v0, by simpa using v1, by simpa using v2, by simpa using v4, by simpa using v5, by simpa using v6, by simpa using v8, fun _ => ⟨by simpa using h3, by first | rfl | simp [vOf]⟩⟩
  · rintro vs W7 ⟨hJ, v0, v1, v2, v4, v5, v6, v8, v9⟩
    obtain ⟨gk, k3, hgk, NK⟩ := hJ.vi rfl
    obtain ⟨go, k7, hgo, NO⟩ := hJ.vk rfl
    have hko : gk ≠ go := fun e => hJ.ne rfl rfl (by rw [k3, k7, e])
    have k0 := v0 rfl
    have k1 := v1 rfl
    have k2 := v2 rfl
    have k4 := v4 rfl
    have k5 := v5 rfl
    have k6 := v6 rfl
    have k8 := (v8 rfl).2.trans k3
    have k9 := (v9 rfl).2.trans k7
    have hb7 := hJ.grew
    clear hJ v0 v1 v2 v4 v5 v6 v8 v9
    simp only [List.take_succ_cons, List.take_zero, List.drop_succ_cons, List.drop_zero, putAll, Act.put, List.setIfInBounds_toArray, List.set_cons_zero, List.set_cons_succ, k0, k1, k2, k3, k4, k5, k6, k7, k8, k9, Nat.reduceAdd, Nat.reduceSub]
    clear k0 k1 k2 k3 k4 k5 k6 k7 k8 k9
    unfold wpList
    have hb47 : Below B W4 W7 := hb46.trans (hb7.mono (Nat.le_trans hBW hb46.size))
    have C7 := C6.below hb7
    have L7 := L6.below hb7
    have X7 := X6.below hb7
    have hgl7 := L6.lt
    have hgx7 := X6.lt
    have hgc7 := C6.lt
    clear C6 L6 X6 hb7 BJ6
    go_wp2_with fail
    go_loopw [32] (fun v wr => ∃ (i gl cl gx cx : Nat) (c : Ct) (K O : List Int), i ≤ m.length ∧ v = .int .i64 i ∧ Below B W4 wr ∧ Blk wr gc 32 #[.slice (some ⟨gl, 0, none⟩) n cl, .int .i64 c.gr, .slice (some ⟨gx, 0, none⟩) 2 cx, .int .i64 c.wt] ∧ LiB wr gl c.li ∧ NxB wr gx c.nx ∧ n ≤ cl ∧ CtV P C n st c ∧ (gl ≠ gc ∧ gl ≠ gk ∧ gl ≠ go) ∧ (gx ≠ gc ∧ gx ≠ gk ∧ gx ≠ go) ∧ NxB wr gk K ∧ NxB wr go O ∧ K.length = n ∧ O.length = n ∧ KO P c K O n) (fun v _ => m.length - (intOf v).toNat)
    case atStart => exact ⟨0, gl, cl, gx, cx, c, _, _, by omega, rfl, hb47, C7, L7, X7, hcl, HV.out, ⟨by omega, by omega, by omega⟩, ⟨by omega, by omega, by omega⟩, NK, NO, List.length_replicate, List.length_replicate, fun p hp hk => by
      have e : at_ (List.replicate n (0 : Int)) p = 0 := by simp [at_, hp]
      omega⟩
    case round =>
      clear HV C7 L7 X7 hb47 NK NO hcl hgl hgx hgl7 hgx7 hlc hxc hb46
      obtain ⟨i, gl, cl, gx, cx, c, K, O, hi, rfl, hbr, Cr, Lr, Xr, hcl, hV, ⟨na, nb, nc⟩, ⟨ma, mb, mc⟩, NKr, NOr, hKn, hOn, hKO⟩ := hrel
      by_cases hlt : i < m.length
      · have hltZ : (i : Int) < m.length := by omega
        obtain ⟨bT, oT, rfl, hbT, hcT⟩ := (hsm.below hbr) (by omega)
        have t0 := hcT i hlt
        have htb := hnm _ (at_mem hlt)
        generalize at_ m i = tv at t0 htb
        obtain ⟨md, hmd⟩ : ∃ md, modI tv ((n : Int) + 1) = md := ⟨_, rfl⟩
        have hmb := modI_bd tv ((n : Int) + 1) (by omega)
        rw [hmd] at hmb
        have HMD := Lib.hid hmd
        have HV := Lib.hid hV
        clear hcT hmd hV
        have zw1 : IntKind.i64.wrap ((n : Int) + 1) = n + 1 := by rw [IntKind.wrap_i64]; omega
        have zw2 : IntKind.i64.wrap (md - 1) = md - 1 := by rw [IntKind.wrap_i64]; omega
        have BJr := BJ.low hbr hgjB
        have hPr := hP4.low hbr hBW
        have hIr := (hI4.below hbr).more (Nat.le_trans hBW hbr.size)
        go_wp2_with fail
        refine wp_region_pre (R := Bl) 10 125 [fun v _ => v = .agg #[.slice (some ⟨bA, oA, none⟩) n c1, .slice (some ⟨bB, oB, none⟩) n d1, .int .i64 st], fun v _ => v = .agg #[.slice (some ⟨gl, 0, none⟩) n cl, .int .i64 c.gr, .slice (some ⟨gx, 0, none⟩) 2 cx, .int .i64 c.wt], fun v _ => v = .int .i64 tv, fun v _ => v = .pointer (some ⟨gj, 0, none⟩), fun v _ => v = .slice (some ⟨bA, oA, none⟩) n c1, fun v _ => v = .int .i64 n, fun v _ => v = .int .i64 ((n : Int) + 1), fun v _ => v = .int .i64 md, fun v _ => v = .int .i64 (md - 1), fun v w => CtH w wr.heap.size n v (stepC P C n c (md - 1))] (Bl.trans) (Bl.drew) (by kernel_rfl) (fun _ _ d _ _ h => by cases d <;> exact h) rfl (by kernel_rfl) (stay_cons (stays_v _) (stay_cons (stays_v _) (stay_cons (stays_v _) (stay_cons (stays_v _) (stay_cons (stays_v _) (stay_cons (stays_v _) (stay_cons (stays_v _) (stay_cons (stays_v _) (stay_cons (stays_v _) (stay_cons (fun v w w1 h hb => CtH.below h hb) (stay_nil))))))))))) ?_ ?_
        · simp only [List.take_succ_cons, List.take_zero]
          refine steps_cons (Bl.refl) (fun ev xw hb hc hf hfr hd hr => ?_) ?_
          · have e5 : ev (.tmp 5) = .pointer (some ⟨gj, 0, none⟩) := hfr 5 (by kernel_rfl)
            clear hfr hd
            have k0 := (BJr.below hb).at 0 rfl
            have k1 := (BJr.below hb).at 1 rfl
            have k2 := (BJr.below hb).at 2 rfl
            show OpOk _ _ ev xw fun v w' => Bl xw w' ∧ (v = .agg #[.slice (some ⟨bA, oA, none⟩) n c1, .slice (some ⟨bB, oB, none⟩) n d1, .int .i64 st])
            refine opOk_hid (fun Rp HR => ?_)
            unfold OpOk
            go_simp
            rw [HR.out]
            exact ⟨hr, rfl⟩
          refine steps_cons (Bl.refl) (fun ev xw hb hc hf hfr hd hr => ?_) ?_
          · have e6 : ev (.tmp 6) = .pointer (some ⟨gc, 0, none⟩) := hfr 6 (by kernel_rfl)
            clear hfr hd
            have k0 := (Cr.below hb).at 0 rfl
            have k1 := (Cr.below hb).at 1 rfl
            have k2 := (Cr.below hb).at 2 rfl
            have k3 := (Cr.below hb).at 3 rfl
            show OpOk _ _ ev xw fun v w' => Bl xw w' ∧ (v = .agg #[.slice (some ⟨gl, 0, none⟩) n cl, .int .i64 c.gr, .slice (some ⟨gx, 0, none⟩) 2 cx, .int .i64 c.wt])
            refine opOk_hid (fun Rp HR => ?_)
            unfold OpOk
            go_simp
            rw [HR.out]
            exact ⟨hr, rfl⟩
          refine steps_cons (Bl.refl) (fun ev xw hb hc hf hfr hd hr => ?_) ?_
          · have e10 : ev (.tmp 10) = .int .i64 tv := hfr 10 (by kernel_rfl)
            clear hfr hd
            show OpOk _ _ ev xw fun v w' => Bl xw w' ∧ (v = .int .i64 tv)
            refine opOk_hid (fun Rp HR => ?_)
            unfold OpOk
            go_simp
            rw [HR.out]
            exact ⟨hr, rfl⟩
          refine steps_cons (Bl.refl) (fun ev xw hb hc hf hfr hd hr => ?_) ?_
          · have e5 : ev (.tmp 5) = .pointer (some ⟨gj, 0, none⟩) := hfr 5 (by kernel_rfl)
            clear hfr hd
            show OpOk _ _ ev xw fun v w' => Bl xw w' ∧ (v = .pointer (some ⟨gj, 0, none⟩))
            refine opOk_hid (fun Rp HR => ?_)
            unfold OpOk
            go_simp
            rw [HR.out]
            exact ⟨hr, rfl⟩
          refine steps_cons (Bl.refl) (fun ev xw hb hc hf hfr hd hr => ?_) ?_
          · have e39 : ev (.tmp 39) = .pointer (some ⟨gj, 0, none⟩) := hd 3 39 (by kernel_rfl)
            clear hfr hd
            have k0 := (BJr.below hb).at 0 rfl
            show OpOk _ _ ev xw fun v w' => Bl xw w' ∧ (v = .slice (some ⟨bA, oA, none⟩) n c1)
            refine opOk_hid (fun Rp HR => ?_)
            unfold OpOk
            go_simp
            rw [HR.out]
            exact ⟨hr, rfl⟩
          refine steps_cons (Bl.refl) (fun ev xw hb hc hf hfr hd hr => ?_) ?_
          · have e40 : ev (.tmp 40) = .slice (some ⟨bA, oA, none⟩) n c1 := hd 4 40 (by kernel_rfl)
            clear hfr hd
            show OpOk _ _ ev xw fun v w' => Bl xw w' ∧ (v = .int .i64 n)
            refine opOk_hid (fun Rp HR => ?_)
            unfold OpOk
            go_simp
            rw [HR.out]
            exact ⟨hr, rfl⟩
          refine steps_cons (Bl.refl) (fun ev xw hb hc hf hfr hd hr => ?_) ?_
          · have e41 : ev (.tmp 41) = .int .i64 n := hd 5 41 (by kernel_rfl)
            clear hfr hd
            show OpOk _ _ ev xw fun v w' => Bl xw w' ∧ (v = .int .i64 ((n : Int) + 1))
            refine opOk_hid (fun Rp HR => ?_)
            unfold OpOk
            go_simp
            rw [HR.out]
            exact ⟨hr, rfl⟩
          refine steps_cons (Bl.refl) (fun ev xw hb hc hf hfr hd hr => ?_) ?_
          · have e38 : ev (.tmp 38) = .int .i64 tv := hd 2 38 (by kernel_rfl)
            have e42 : ev (.tmp 42) = .int .i64 ((n : Int) + 1) := hd 6 42 (by kernel_rfl)
            clear hfr hd
            show OpOk _ _ ev xw fun v w' => Bl xw w' ∧ (v = .int .i64 md)
            refine opOk_hid (fun Rp HR => ?_)
            unfold OpOk
            go_simp
            have hmm := mod_any tv ((n : Int) + 1) (by omega) (by omega) htb.1 htb.2 xw
            rw [HMD.out] at hmm
            refine hmm.mono ?_
            rintro e w'' ⟨rfl, rfl⟩
            refine ⟨_, rfl, ?_⟩
            rw [HR.out]
            exact ⟨hr, rfl⟩
          refine steps_cons (Bl.refl) (fun ev xw hb hc hf hfr hd hr => ?_) ?_
          · have e43 : ev (.tmp 43) = .int .i64 md := hd 7 43 (by kernel_rfl)
            clear hfr hd
            show OpOk _ _ ev xw fun v w' => Bl xw w' ∧ (v = .int .i64 (md - 1))
            refine opOk_hid (fun Rp HR => ?_)
            unfold OpOk
            go_simp
            rw [HR.out]
            exact ⟨hr, rfl⟩
          refine steps_cons (Bl.refl) (fun ev xw hb hc hf hfr hd hr => ?_) ?_
          · have e36 : ev (.tmp 36) = .agg #[.slice (some ⟨bA, oA, none⟩) n c1, .slice (some ⟨bB, oB, none⟩) n d1, .int .i64 st] := hd 0 36 (by kernel_rfl)
            have e37 : ev (.tmp 37) = .agg #[.slice (some ⟨gl, 0, none⟩) n cl, .int .i64 c.gr, .slice (some ⟨gx, 0, none⟩) 2 cx, .int .i64 c.wt] := hd 1 37 (by kernel_rfl)
            have e44 : ev (.tmp 44) = .int .i64 (md - 1) := hd 8 44 (by kernel_rfl)
            clear hfr hd
            show OpOk _ _ ev xw fun v w' => Bl xw w' ∧ (CtH w' wr.heap.size n v (stepC P C n c (md - 1)))
            refine opOk_hid (fun Rp HR => ?_)
            unfold OpOk
            go_simp
            refine (cstep_any (some ⟨bA, oA, none⟩) (some ⟨bB, oB, none⟩) (some ⟨gl, 0, none⟩) (some ⟨gx, 0, none⟩) c1 d1 cl cx n P C c st (md - 1) xw HJC.out HV.out (hPr.low hb (Nat.le_refl _)) (hIr.grow hb) (Lr.below hb).prs (Xr.below hb).ints).mono ?_
            rintro e w'' ⟨v, rfl, hw, hct⟩
            refine ⟨_, rfl, ?_⟩
            rw [HR.out]
            exact ⟨hw, hct.base hb.size⟩
          exact steps_nil
        · intro vs W9 hb9 hk
          obtain ⟨gl', cl', gx', cx', k9, ⟨hgl', hcl'⟩, hgx', L9, X9⟩ : CtH W9 wr.heap.size n (vs 9) (stepC P C n c (md - 1)) := hk 9 (by omega)
          clear hk
          simp only [List.take_succ_cons, List.take_zero, List.drop_succ_cons, List.drop_zero, putAll, Act.put, List.setIfInBounds_toArray, List.set_cons_zero, List.set_cons_succ, k9, Nat.reduceAdd, Nat.reduceSub]
          clear k9
          have lgc := Cr.lt
          have lgk := NKr.lt
          have lgo := NOr.lt
          have C9 := Cr.below hb9
          refine step_store_ct (by rfl) (by rfl) (by rfl) (b := gc) (by rfl) (by rfl) C9 ?_
          intro W10 C10 hg10
          unfold wpList
          have HV' := Lib.hid (step_v HJC.out.rows HV.out h1 HJC.out.pok HJC.out.ri HJC.out.gr (md - 1))
          have HKO := Lib.hid (show ∀ p, p < n → 0 < at_ K p → at_ O p = colV (lmp (stepC P C n c (md - 1)).li p) from fun p hp hk => by rw [step_keep HJC.out.rows HV.out h1 HJC.out.pok HJC.out.ri HJC.out.gr (md - 1) hp (hKO p hp hk).2]; exact (hKO p hp hk).1)
          generalize stepC P C n c (md - 1) = c' at *
          have L10 := L9.grown hg10 (by intro e; injection e with e; omega)
          have X10 := X9.grown hg10 (by intro e; injection e with e; omega)
          have NK10 := (NKr.below hb9).grown hg10 (by intro e; injection e with e; omega)
          have NO10 := (NOr.below hb9).grown hg10 (by intro e; injection e with e; omega)
          have BJ10 := (BJr.below hb9).grown hg10 (by intro e; injection e with e; omega)
          have bB9 : Below B W4 W9 := hbr.trans (hb9.mono (Nat.le_trans hBW hbr.size))
          have bB10 : Below B W4 W10 := Below.grown bB9 hg10 (Nat.le_trans hBW bB9.size) (fun k e => by injection e with e; omega)
          have P10 := hP4.low bB10 hBW
          have hs10 := hg10.size
          have hs9 := hb9.size
          have j0 := BJ10.at 0 rfl
          have j1 := BJ10.at 1 rfl
          have j2 := BJ10.at 2 rfl
          have x0 := C10.at 0 rfl
          have x1 := C10.at 1 rfl
          have x2 := C10.at 2 rfl
          have x3 := C10.at 3 rfl
          clear C9 L9 X9 Cr Lr Xr NKr NOr BJr hb9 hg10 hKO HV bB9 hPr hIr hbr t0 zw1 zw2 hmb htb HMD
          go_wp2_with fail
          have hof := of_any (some ⟨bA, oA, none⟩) (some ⟨bB, oB, none⟩) c1 d1 n st P c' gl' cl' (some ⟨gx', 0, none⟩) 2 cx' (-1) 0 none 0 0 W10 (by omega) (by omega) P10 HN.out HJC.out.pok L10 HV'.out.li hcl' HV'.out.ok
          rw [show ((-1 : Int) != -1) = false from rfl] at hof
          refine hof.mono ?_
          clear hof j0 j1 j2 x0 x1 x2 x3
          rintro e W11 ⟨g, h, rfl, hb11, hgg, hhh, hgh, NG, NH⟩
          obtain ⟨cf, hcf⟩ : ∃ f : Nat → Int, (fun i => colV (lmp c'.li i)) = f := ⟨_, rfl⟩
          obtain ⟨nf, hnf⟩ : ∃ f : Nat → Int, (fun i => countV (phAt P i) (lmp c'.li i) (tck c'.li i)) = f := ⟨_, rfl⟩
          rw [hcf] at NG
          rw [hnf] at NH
          have HCE := Lib.hid (fun i => congrFun hcf i)
          have HNE := Lib.hid (fun i => congrFun hnf i)
          have HCF := Lib.hid (show ∀ p, p < n → 0 < at_ K p → at_ O p = cf p from fun p hp hk => (HKO.out p hp hk).trans (HCE.out p))
          have HNF := Lib.hid (show ∀ p, p < n → 0 ≤ nf p from fun p hp => by rw [← HNE.out p]; exact (count_bd (HJC.out.pok p hp) (HV'.out.ok p hp)).1)
          clear hcf hnf HKO
          have bV := lat_alloc (Below.refl W11.heap.size W11) (.cells #[.bool false, .bool false, .slice (some ⟨g, 0, none⟩) n n, .slice (some ⟨h, 0, none⟩) n n] 40)
          have b12 := hb11.trans (bV.mono hb11.size)
          have VS := Blk.new (w := W11) (t := 40) (cs := #[.bool false, .bool false, .slice (some ⟨g, 0, none⟩) n n, .slice (some ⟨h, 0, none⟩) n n])
          have C12 := C10.below b12
          have L12 := L10.below b12
          have X12 := X10.below b12
          have NK12 := NK10.below b12
          have NO12 := NO10.below b12
          have BJ12 := BJ10.below b12
          have NGS := NG.below bV
          have NHS := NH.below bV
          have lg := NG.lt
          have lh := NH.lt
          have ll := L10.lt
          have lx := X10.lt
          have bB12 : Below B W4 (W11.alloc (.cells #[.bool false, .bool false, .slice (some ⟨g, 0, none⟩) n n, .slice (some ⟨h, 0, none⟩) n n] 40)) := bB10.trans (b12.mono (Nat.le_trans hBW bB10.size))
          have hs11 := hb11.size
          have hgvS := VS.lt
          clear C10 L10 X10 NK10 NO10 BJ10 NG NH bB10 hb11 b12 bV P10
          have j0 := BJ12.at 0 rfl
          go_wp2_with fail
          clear j0
          generalize W11.alloc (.cells #[.bool false, .bool false, .slice (some ⟨g, 0, none⟩) n n, .slice (some ⟨h, 0, none⟩) n n] 40) = WS at *
          generalize W11.heap.size = gv at *
          have hvk : gv ≠ gk := by omega
          have hvo : gv ≠ go := by omega
          go_loopw [78] (fun v ws => ∃ p : Nat, p ≤ n ∧ v = .int .i64 p ∧ Below B W4 ws ∧ WS.heap.size ≤ ws.heap.size ∧ (∀ b, b < WS.heap.size → b ≠ gk → b ≠ go → ws.heap[b]? = WS.heap[b]?) ∧ NxB ws gk (mixL nf K n p) ∧ NxB ws go (mixL cf O n p)) (fun v _ => n - (intOf v).toNat)
          case atStart => exact ⟨0, by omega, rfl, bB12, Nat.le_refl _, fun _ _ _ _ => rfl, by rw [mix_zero _ _ _ hKn]; exact NK12, by rw [mix_zero _ _ _ hOn]; exact NO12⟩
          case round =>
            obtain ⟨p, hp, rfl, hbs, hss, hfs, NKs, NOs⟩ := hrel
            by_cases hlp : p < n
            · have hlpZ : (p : Int) < n := by omega
              obtain ⟨y5, z5⟩ := NKs.at (i := p) (by rw [mix_len]; exact hlp)
              obtain ⟨y6, z6⟩ := NOs.at (i := p) (by rw [mix_len]; exact hlp)
              rw [mix_at _ _ hlp, if_neg (by omega)] at y5 y6
              have VSs : Blk wr gv 40 #[.bool false, .bool false, .slice (some ⟨g, 0, none⟩) n n, .slice (some ⟨h, 0, none⟩) n n] := (hfs gv hgvS hvk hvo).trans VS
              have NGs := NGS.move (hfs g (by omega) (by omega) (by omega))
              have NHs := NHS.move (hfs h (by omega) (by omega) (by omega))
              obtain ⟨y7, _⟩ := NGs.at (i := p) (by rw [fill_len]; exact hlp)
              obtain ⟨y8, _⟩ := NHs.at (i := p) (by rw [fill_len]; exact hlp)
              rw [fill_at _ hlp, if_pos hlp] at y7 y8
              have hcp := HCF.out p hlp
              have hnp := HNF.out p hlp
              obtain ⟨kp, hkp⟩ : ∃ x, at_ K p = x := ⟨_, rfl⟩
              obtain ⟨op, hop⟩ : ∃ x, at_ O p = x := ⟨_, rfl⟩
              obtain ⟨cp, hcpe⟩ : ∃ x, cf p = x := ⟨_, rfl⟩
              obtain ⟨np, hnpe⟩ : ∃ x, nf p = x := ⟨_, rfl⟩
              rw [hkp] at y5 hcp
              rw [hop] at y6 hcp
              rw [hcpe] at y7 hcp
              rw [hnpe] at y8 hnp
              have HCP := Lib.hid hcpe
              have HNP := Lib.hid hnpe
              clear hkp hop hcpe hnpe z5 z6
              have v2 := VSs.at 2 rfl
              have v3 := VSs.at 3 rfl
              have HFS := Lib.hid hfs
              clear hfs
              have zn : decide (np < 0) = false := decide_eq_false (by omega)
              by_cases hk0 : 0 < kp
              · have hco := (hcp hk0).symm
                subst hco
                have zk : decide (0 < kp) = true := decide_eq_true hk0
                have ze : (cp != cp) = false := by simp
                clear hcp hnp hk0
                go_wp2_with fail
                go_quiet (fail)
                have bq := below_drewN (n := nq) (Below.refl wr.heap.size wr)
                have VS2 := VSs.below bq
                have NGs := NGs.below bq
                have NHs := NHs.below bq
                have NK2 := NKs.below bq
                have NO2 := NOs.below bq
                have hbs2 := hbs.trans (bq.mono (Nat.le_trans hBW hbs.size))
                have hss2 : WS.heap.size ≤ (wr.drewN nq).heap.size := hss
                have HFS2 := Lib.hid (show ∀ b, b < WS.heap.size → b ≠ gk → b ≠ go → (wr.drewN nq).heap[b]? = WS.heap[b]? from fun b hb n1 n2 => HFS.out b hb n1 n2)
                clear bq VSs NKs NOs hbs hss HFS v2 v3 y5 y6 y7 y8 zn zk
                generalize wr.drewN nq = W18 at *
                go_wp2_with fail
                refine wp_region_pre (R := Bl) 15 125 [fun v _ => v = .slice (some ⟨gk, 0, none⟩) n n, fun v _ => v = .int .i64 p, fun v _ => v = .slice (some ⟨go, 0, none⟩) n n, fun v _ => v = .int .i64 p, fun v _ => v = .pointer (some ⟨gv, 3, none⟩), fun v _ => v = .slice (some ⟨h, 0, none⟩) n n, fun v _ => v = .int .i64 p, fun v _ => v = .pointer (some ⟨h, p, none⟩), fun v _ => v = .int .i64 np, fun v _ => v = .pointer (some ⟨gv, 2, none⟩), fun v _ => v = .slice (some ⟨g, 0, none⟩) n n, fun v _ => v = .int .i64 p, fun v _ => v = .pointer (some ⟨g, p, none⟩), fun v _ => v = .int .i64 cp, fun v _ => v = .pointer (some ⟨gk, p, none⟩)] (Bl.trans) (Bl.drew) (by kernel_rfl) (fun _ _ d _ _ h => by cases d <;> exact h) rfl (by kernel_rfl) (stay_cons (stays_v _) (stay_cons (stays_v _) (stay_cons (stays_v _) (stay_cons (stays_v _) (stay_cons (stays_v _) (stay_cons (stays_v _) (stay_cons (stays_v _) (stay_cons (stays_v _) (stay_cons (stays_v _) (stay_cons (stays_v _) (stay_cons (stays_v _) (stay_cons (stays_v _) (stay_cons (stays_v _) (stay_cons (stays_v _) (stay_cons (stays_v _) (stay_nil)))))))))))))))) ?_ ?_
                · simp only [List.take_succ_cons, List.take_zero]
                  refine steps_cons (Bl.refl) (fun ev xw hb hc hf hfr hd hr => ?_) ?_
                  · have e7 : ev (.tmp 7) = .slice (some ⟨gk, 0, none⟩) n n := hfr 7 (by kernel_rfl)
                    clear hfr hd
                    show OpOk _ _ ev xw fun v w' => Bl xw w' ∧ (v = .slice (some ⟨gk, 0, none⟩) n n)
                    refine opOk_hid (fun Rp HR => ?_)
                    unfold OpOk
                    go_simp
                    rw [HR.out]
                    exact ⟨hr, rfl⟩
                  refine steps_cons (Bl.refl) (fun ev xw hb hc hf hfr hd hr => ?_) ?_
                  · have e12 : ev (.tmp 12) = .int .i64 p := hfr 12 (by kernel_rfl)
                    clear hfr hd
                    show OpOk _ _ ev xw fun v w' => Bl xw w' ∧ (v = .int .i64 p)
                    refine opOk_hid (fun Rp HR => ?_)
                    unfold OpOk
                    go_simp
                    rw [HR.out]
                    exact ⟨hr, rfl⟩
                  refine steps_cons (Bl.refl) (fun ev xw hb hc hf hfr hd hr => ?_) ?_
                  · have e8 : ev (.tmp 8) = .slice (some ⟨go, 0, none⟩) n n := hfr 8 (by kernel_rfl)
                    clear hfr hd
                    show OpOk _ _ ev xw fun v w' => Bl xw w' ∧ (v = .slice (some ⟨go, 0, none⟩) n n)
                    refine opOk_hid (fun Rp HR => ?_)
                    unfold OpOk
                    go_simp
                    rw [HR.out]
                    exact ⟨hr, rfl⟩
                  refine steps_cons (Bl.refl) (fun ev xw hb hc hf hfr hd hr => ?_) ?_
                  · have e12 : ev (.tmp 12) = .int .i64 p := hfr 12 (by kernel_rfl)
                    clear hfr hd
                    show OpOk _ _ ev xw fun v w' => Bl xw w' ∧ (v = .int .i64 p)
                    refine opOk_hid (fun Rp HR => ?_)
                    unfold OpOk
                    go_simp
                    rw [HR.out]
                    exact ⟨hr, rfl⟩
                  refine steps_cons (Bl.refl) (fun ev xw hb hc hf hfr hd hr => ?_) ?_
                  · have e11 : ev (.tmp 11) = .pointer (some ⟨gv, 0, none⟩) := hfr 11 (by kernel_rfl)
                    clear hfr hd
                    show OpOk _ _ ev xw fun v w' => Bl xw w' ∧ (v = .pointer (some ⟨gv, 3, none⟩))
                    refine opOk_hid (fun Rp HR => ?_)
                    unfold OpOk
                    go_simp
                    rw [HR.out]
                    exact ⟨hr, rfl⟩
                  refine steps_cons (Bl.refl) (fun ev xw hb hc hf hfr hd hr => ?_) ?_
                  · have e110 : ev (.tmp 110) = .pointer (some ⟨gv, 3, none⟩) := hd 4 110 (by kernel_rfl)
                    clear hfr hd
                    have x3 := (VS2.below hb).at 3 rfl
                    show OpOk _ _ ev xw fun v w' => Bl xw w' ∧ (v = .slice (some ⟨h, 0, none⟩) n n)
                    refine opOk_hid (fun Rp HR => ?_)
                    unfold OpOk
                    go_simp
                    rw [HR.out]
                    exact ⟨hr, rfl⟩
                  refine steps_cons (Bl.refl) (fun ev xw hb hc hf hfr hd hr => ?_) ?_
                  · have e12 : ev (.tmp 12) = .int .i64 p := hfr 12 (by kernel_rfl)
                    clear hfr hd
                    show OpOk _ _ ev xw fun v w' => Bl xw w' ∧ (v = .int .i64 p)
                    refine opOk_hid (fun Rp HR => ?_)
                    unfold OpOk
                    go_simp
                    rw [HR.out]
                    exact ⟨hr, rfl⟩
                  refine steps_cons (Bl.refl) (fun ev xw hb hc hf hfr hd hr => ?_) ?_
                  · have e111 : ev (.tmp 111) = .slice (some ⟨h, 0, none⟩) n n := hd 5 111 (by kernel_rfl)
                    have e112 : ev (.tmp 112) = .int .i64 p := hd 6 112 (by kernel_rfl)
                    clear hfr hd
                    show OpOk _ _ ev xw fun v w' => Bl xw w' ∧ (v = .pointer (some ⟨h, p, none⟩))
                    refine opOk_hid (fun Rp HR => ?_)
                    unfold OpOk
                    go_simp
                    rw [HR.out]
                    exact ⟨hr, rfl⟩
                  refine steps_cons (Bl.refl) (fun ev xw hb hc hf hfr hd hr => ?_) ?_
                  · have e113 : ev (.tmp 113) = .pointer (some ⟨h, p, none⟩) := hd 7 113 (by kernel_rfl)
                    clear hfr hd
                    obtain ⟨x7, _⟩ := (NHs.below hb).at (i := p) (by rw [fill_len]; exact hlp)
                    rw [fill_at _ hlp, if_pos hlp, HNP.out] at x7
                    show OpOk _ _ ev xw fun v w' => Bl xw w' ∧ (v = .int .i64 np)
                    refine opOk_hid (fun Rp HR => ?_)
                    unfold OpOk
                    go_simp
                    rw [HR.out]
                    exact ⟨hr, rfl⟩
                  refine steps_cons (Bl.refl) (fun ev xw hb hc hf hfr hd hr => ?_) ?_
                  · have e11 : ev (.tmp 11) = .pointer (some ⟨gv, 0, none⟩) := hfr 11 (by kernel_rfl)
                    clear hfr hd
                    show OpOk _ _ ev xw fun v w' => Bl xw w' ∧ (v = .pointer (some ⟨gv, 2, none⟩))
                    refine opOk_hid (fun Rp HR => ?_)
                    unfold OpOk
                    go_simp
                    rw [HR.out]
                    exact ⟨hr, rfl⟩
                  refine steps_cons (Bl.refl) (fun ev xw hb hc hf hfr hd hr => ?_) ?_
                  · have e115 : ev (.tmp 115) = .pointer (some ⟨gv, 2, none⟩) := hd 9 115 (by kernel_rfl)
                    clear hfr hd
                    have x2 := (VS2.below hb).at 2 rfl
                    show OpOk _ _ ev xw fun v w' => Bl xw w' ∧ (v = .slice (some ⟨g, 0, none⟩) n n)
                    refine opOk_hid (fun Rp HR => ?_)
                    unfold OpOk
                    go_simp
                    rw [HR.out]
                    exact ⟨hr, rfl⟩
                  refine steps_cons (Bl.refl) (fun ev xw hb hc hf hfr hd hr => ?_) ?_
                  · have e12 : ev (.tmp 12) = .int .i64 p := hfr 12 (by kernel_rfl)
                    clear hfr hd
                    show OpOk _ _ ev xw fun v w' => Bl xw w' ∧ (v = .int .i64 p)
                    refine opOk_hid (fun Rp HR => ?_)
                    unfold OpOk
                    go_simp
                    rw [HR.out]
                    exact ⟨hr, rfl⟩
                  refine steps_cons (Bl.refl) (fun ev xw hb hc hf hfr hd hr => ?_) ?_
                  · have e116 : ev (.tmp 116) = .slice (some ⟨g, 0, none⟩) n n := hd 10 116 (by kernel_rfl)
                    have e117 : ev (.tmp 117) = .int .i64 p := hd 11 117 (by kernel_rfl)
                    clear hfr hd
                    show OpOk _ _ ev xw fun v w' => Bl xw w' ∧ (v = .pointer (some ⟨g, p, none⟩))
                    refine opOk_hid (fun Rp HR => ?_)
                    unfold OpOk
                    go_simp
                    rw [HR.out]
                    exact ⟨hr, rfl⟩
                  refine steps_cons (Bl.refl) (fun ev xw hb hc hf hfr hd hr => ?_) ?_
                  · have e118 : ev (.tmp 118) = .pointer (some ⟨g, p, none⟩) := hd 12 118 (by kernel_rfl)
                    clear hfr hd
                    obtain ⟨x7, _⟩ := (NGs.below hb).at (i := p) (by rw [fill_len]; exact hlp)
                    rw [fill_at _ hlp, if_pos hlp, HCP.out] at x7
                    show OpOk _ _ ev xw fun v w' => Bl xw w' ∧ (v = .int .i64 cp)
                    refine opOk_hid (fun Rp HR => ?_)
                    unfold OpOk
                    go_simp
                    rw [HR.out]
                    exact ⟨hr, rfl⟩
                  refine steps_cons (Bl.refl) (fun ev xw hb hc hf hfr hd hr => ?_) ?_
                  · have e106 : ev (.tmp 106) = .slice (some ⟨gk, 0, none⟩) n n := hd 0 106 (by kernel_rfl)
                    have e107 : ev (.tmp 107) = .int .i64 p := hd 1 107 (by kernel_rfl)
                    clear hfr hd
                    show OpOk _ _ ev xw fun v w' => Bl xw w' ∧ (v = .pointer (some ⟨gk, p, none⟩))
                    refine opOk_hid (fun Rp HR => ?_)
                    unfold OpOk
                    go_simp
                    rw [HR.out]
                    exact ⟨hr, rfl⟩
                  exact steps_nil
                · intro vs W19 hb19 hk
                  have k2 := hk 2 (by omega)
                  change vs 2 = .slice (some ⟨go, 0, none⟩) n n at k2
                  have k3 := hk 3 (by omega)
                  change vs 3 = .int .i64 p at k3
                  have k8 := hk 8 (by omega)
                  change vs 8 = .int .i64 np at k8
                  have k13 := hk 13 (by omega)
                  change vs 13 = .int .i64 cp at k13
                  have k14 := hk 14 (by omega)
                  change vs 14 = .pointer (some ⟨gk, p, none⟩) at k14
                  clear hk
                  simp only [List.take_succ_cons, List.take_zero, List.drop_succ_cons, List.drop_zero, putAll, Act.put, List.setIfInBounds_toArray, List.set_cons_zero, List.set_cons_succ, k2, k3, k8, k13, k14, Nat.reduceAdd, Nat.reduceSub]
                  clear k2 k3 k8 k13 k14
                  refine step_store_nx (by rfl) (by rfl) (by rfl) (g := gk) (i := p) (by rfl) (by rfl) (NK2.below hb19) (show p < (mixL nf K n p).length by rw [mix_len]; exact hlp) ?_
                  intro W20 NK20 hg20
                  have NO20 := (NO2.below hb19).grown hg20 (by intro e; injection e with e; omega)
                  go_wp2_with (refine step_store_nx (by rfl) (by rfl) (by rfl) (g := go) (i := p) (by rfl) (by rfl) NO20 (show p < (mixL cf O n p).length by rw [mix_len]; exact hlp) ?_; intro W21 NO21 hg21)
                  have NK21 := NK20.grown hg21 (by intro e; injection e with e; omega)
                  have b19 : Below B W4 W19 := hbs2.trans (hb19.mono (Nat.le_trans hBW hbs2.size))
                  have b20 : Below B W4 W20 := Below.grown b19 hg20 (Nat.le_trans hBW b19.size) (fun k e => by injection e with e; omega)
                  have b21 : Below B W4 W21 := Below.grown b20 hg21 (Nat.le_trans hBW b20.size) (fun k e => by injection e with e; omega)
                  have NK22 : NxB W21 gk (mixL nf K n (p + 1)) := by
                    rw [← HNP.out, mix_set nf K hlp] at NK21; exact NK21
                  have NO22 : NxB W21 go (mixL cf O n (p + 1)) := by
                    rw [← HCP.out, mix_set cf O hlp] at NO21; exact NO21
                  have s19 := hb19.size
                  have s20 := hg20.size
                  have s21 := hg21.size
                  go_roundw
                  case rel => exact ⟨p + 1, hlp, by go_num, b21, by omega, fun b hb ne1 ne2 => ((hg21.block b (by omega) (fun e => by injection e with e; exact ne2 e)).trans (hg20.block b (by omega) (fun e => by injection e with e; exact ne1 e))).trans ((hb19.block b (by omega)).trans (HFS2.out b hb ne1 ne2)), NK22, NO22⟩
                  case measure => simp [intOf]; omega
              · have zk : decide (0 < kp) = false := decide_eq_false hk0
                clear hcp hnp hk0
                go_wp2_with fail
                go_quiet (fail)
                have bq := below_drewN (n := nq) (Below.refl wr.heap.size wr)
                have VS2 := VSs.below bq
                have NGs := NGs.below bq
                have NHs := NHs.below bq
                have NK2 := NKs.below bq
                have NO2 := NOs.below bq
                have hbs2 := hbs.trans (bq.mono (Nat.le_trans hBW hbs.size))
                have hss2 : WS.heap.size ≤ (wr.drewN nq).heap.size := hss
                have HFS2 := Lib.hid (show ∀ b, b < WS.heap.size → b ≠ gk → b ≠ go → (wr.drewN nq).heap[b]? = WS.heap[b]? from fun b hb n1 n2 => HFS.out b hb n1 n2)
                clear bq VSs NKs NOs hbs hss HFS v2 v3 y5 y6 y7 y8 zn zk
                generalize wr.drewN nq = W18 at *
                go_wp2_with fail
                refine wp_region_pre (R := Bl) 15 125 [fun v _ => v = .slice (some ⟨gk, 0, none⟩) n n, fun v _ => v = .int .i64 p, fun v _ => v = .slice (some ⟨go, 0, none⟩) n n, fun v _ => v = .int .i64 p, fun v _ => v = .pointer (some ⟨gv, 3, none⟩), fun v _ => v = .slice (some ⟨h, 0, none⟩) n n, fun v _ => v = .int .i64 p, fun v _ => v = .pointer (some ⟨h, p, none⟩), fun v _ => v = .int .i64 np, fun v _ => v = .pointer (some ⟨gv, 2, none⟩), fun v _ => v = .slice (some ⟨g, 0, none⟩) n n, fun v _ => v = .int .i64 p, fun v _ => v = .pointer (some ⟨g, p, none⟩), fun v _ => v = .int .i64 cp, fun v _ => v = .pointer (some ⟨gk, p, none⟩)] (Bl.trans) (Bl.drew) (by kernel_rfl) (fun _ _ d _ _ h => by cases d <;> exact h) rfl (by kernel_rfl) (stay_cons (stays_v _) (stay_cons (stays_v _) (stay_cons (stays_v _) (stay_cons (stays_v _) (stay_cons (stays_v _) (stay_cons (stays_v _) (stay_cons (stays_v _) (stay_cons (stays_v _) (stay_cons (stays_v _) (stay_cons (stays_v _) (stay_cons (stays_v _) (stay_cons (stays_v _) (stay_cons (stays_v _) (stay_cons (stays_v _) (stay_cons (stays_v _) (stay_nil)))))))))))))))) ?_ ?_
                · simp only [List.take_succ_cons, List.take_zero]
                  refine steps_cons (Bl.refl) (fun ev xw hb hc hf hfr hd hr => ?_) ?_
                  · have e7 : ev (.tmp 7) = .slice (some ⟨gk, 0, none⟩) n n := hfr 7 (by kernel_rfl)
                    clear hfr hd
                    show OpOk _ _ ev xw fun v w' => Bl xw w' ∧ (v = .slice (some ⟨gk, 0, none⟩) n n)
                    refine opOk_hid (fun Rp HR => ?_)
                    unfold OpOk
                    go_simp
                    rw [HR.out]
                    exact ⟨hr, rfl⟩
                  refine steps_cons (Bl.refl) (fun ev xw hb hc hf hfr hd hr => ?_) ?_
                  · have e12 : ev (.tmp 12) = .int .i64 p := hfr 12 (by kernel_rfl)
                    clear hfr hd
                    show OpOk _ _ ev xw fun v w' => Bl xw w' ∧ (v = .int .i64 p)
                    refine opOk_hid (fun Rp HR => ?_)
                    unfold OpOk
                    go_simp
                    rw [HR.out]
                    exact ⟨hr, rfl⟩
                  refine steps_cons (Bl.refl) (fun ev xw hb hc hf hfr hd hr => ?_) ?_
                  · have e8 : ev (.tmp 8) = .slice (some ⟨go, 0, none⟩) n n := hfr 8 (by kernel_rfl)
                    clear hfr hd
                    show OpOk _ _ ev xw fun v w' => Bl xw w' ∧ (v = .slice (some ⟨go, 0, none⟩) n n)
                    refine opOk_hid (fun Rp HR => ?_)
                    unfold OpOk
                    go_simp
                    rw [HR.out]
                    exact ⟨hr, rfl⟩
                  refine steps_cons (Bl.refl) (fun ev xw hb hc hf hfr hd hr => ?_) ?_
                  · have e12 : ev (.tmp 12) = .int .i64 p := hfr 12 (by kernel_rfl)
                    clear hfr hd
                    show OpOk _ _ ev xw fun v w' => Bl xw w' ∧ (v = .int .i64 p)
                    refine opOk_hid (fun Rp HR => ?_)
                    unfold OpOk
                    go_simp
                    rw [HR.out]
                    exact ⟨hr, rfl⟩
                  refine steps_cons (Bl.refl) (fun ev xw hb hc hf hfr hd hr => ?_) ?_
                  · have e11 : ev (.tmp 11) = .pointer (some ⟨gv, 0, none⟩) := hfr 11 (by kernel_rfl)
                    clear hfr hd
                    show OpOk _ _ ev xw fun v w' => Bl xw w' ∧ (v = .pointer (some ⟨gv, 3, none⟩))
                    refine opOk_hid (fun Rp HR => ?_)
                    unfold OpOk
                    go_simp
                    rw [HR.out]
                    exact ⟨hr, rfl⟩
                  refine steps_cons (Bl.refl) (fun ev xw hb hc hf hfr hd hr => ?_) ?_
                  · have e110 : ev (.tmp 110) = .pointer (some ⟨gv, 3, none⟩) := hd 4 110 (by kernel_rfl)
                    clear hfr hd
                    have x3 := (VS2.below hb).at 3 rfl
                    show OpOk _ _ ev xw fun v w' => Bl xw w' ∧ (v = .slice (some ⟨h, 0, none⟩) n n)
                    refine opOk_hid (fun Rp HR => ?_)
                    unfold OpOk
                    go_simp
                    rw [HR.out]
                    exact ⟨hr, rfl⟩
                  refine steps_cons (Bl.refl) (fun ev xw hb hc hf hfr hd hr => ?_) ?_
                  · have e12 : ev (.tmp 12) = .int .i64 p := hfr 12 (by kernel_rfl)
                    clear hfr hd
                    show OpOk _ _ ev xw fun v w' => Bl xw w' ∧ (v = .int .i64 p)
                    refine opOk_hid (fun Rp HR => ?_)
                    unfold OpOk
                    go_simp
                    rw [HR.out]
                    exact ⟨hr, rfl⟩
                  refine steps_cons (Bl.refl) (fun ev xw hb hc hf hfr hd hr => ?_) ?_
                  · have e111 : ev (.tmp 111) = .slice (some ⟨h, 0, none⟩) n n := hd 5 111 (by kernel_rfl)
                    have e112 : ev (.tmp 112) = .int .i64 p := hd 6 112 (by kernel_rfl)
                    clear hfr hd
                    show OpOk _ _ ev xw fun v w' => Bl xw w' ∧ (v = .pointer (some ⟨h, p, none⟩))
                    refine opOk_hid (fun Rp HR => ?_)
                    unfold OpOk
                    go_simp
                    rw [HR.out]
                    exact ⟨hr, rfl⟩
                  refine steps_cons (Bl.refl) (fun ev xw hb hc hf hfr hd hr => ?_) ?_
                  · have e113 : ev (.tmp 113) = .pointer (some ⟨h, p, none⟩) := hd 7 113 (by kernel_rfl)
                    clear hfr hd
                    obtain ⟨x7, _⟩ := (NHs.below hb).at (i := p) (by rw [fill_len]; exact hlp)
                    rw [fill_at _ hlp, if_pos hlp, HNP.out] at x7
                    show OpOk _ _ ev xw fun v w' => Bl xw w' ∧ (v = .int .i64 np)
                    refine opOk_hid (fun Rp HR => ?_)
                    unfold OpOk
                    go_simp
                    rw [HR.out]
                    exact ⟨hr, rfl⟩
                  refine steps_cons (Bl.refl) (fun ev xw hb hc hf hfr hd hr => ?_) ?_
                  · have e11 : ev (.tmp 11) = .pointer (some ⟨gv, 0, none⟩) := hfr 11 (by kernel_rfl)
                    clear hfr hd
                    show OpOk _ _ ev xw fun v w' => Bl xw w' ∧ (v = .pointer (some ⟨gv, 2, none⟩))
                    refine opOk_hid (fun Rp HR => ?_)
                    unfold OpOk
                    go_simp
                    rw [HR.out]
                    exact ⟨hr, rfl⟩
                  refine steps_cons (Bl.refl) (fun ev xw hb hc hf hfr hd hr => ?_) ?_
                  · have e115 : ev (.tmp 115) = .pointer (some ⟨gv, 2, none⟩) := hd 9 115 (by kernel_rfl)
                    clear hfr hd
                    have x2 := (VS2.below hb).at 2 rfl
                    show OpOk _ _ ev xw fun v w' => Bl xw w' ∧ (v = .slice (some ⟨g, 0, none⟩) n n)
                    refine opOk_hid (fun Rp HR => ?_)
                    unfold OpOk
                    go_simp
                    rw [HR.out]
                    exact ⟨hr, rfl⟩
                  refine steps_cons (Bl.refl) (fun ev xw hb hc hf hfr hd hr => ?_) ?_
                  · have e12 : ev (.tmp 12) = .int .i64 p := hfr 12 (by kernel_rfl)
                    clear hfr hd
                    show OpOk _ _ ev xw fun v w' => Bl xw w' ∧ (v = .int .i64 p)
                    refine opOk_hid (fun Rp HR => ?_)
                    unfold OpOk
                    go_simp
                    rw [HR.out]
                    exact ⟨hr, rfl⟩
                  refine steps_cons (Bl.refl) (fun ev xw hb hc hf hfr hd hr => ?_) ?_
                  · have e116 : ev (.tmp 116) = .slice (some ⟨g, 0, none⟩) n n := hd 10 116 (by kernel_rfl)
                    have e117 : ev (.tmp 117) = .int .i64 p := hd 11 117 (by kernel_rfl)
                    clear hfr hd
                    show OpOk _ _ ev xw fun v w' => Bl xw w' ∧ (v = .pointer (some ⟨g, p, none⟩))
                    refine opOk_hid (fun Rp HR => ?_)
                    unfold OpOk
                    go_simp
                    rw [HR.out]
                    exact ⟨hr, rfl⟩
                  refine steps_cons (Bl.refl) (fun ev xw hb hc hf hfr hd hr => ?_) ?_
                  · have e118 : ev (.tmp 118) = .pointer (some ⟨g, p, none⟩) := hd 12 118 (by kernel_rfl)
                    clear hfr hd
                    obtain ⟨x7, _⟩ := (NGs.below hb).at (i := p) (by rw [fill_len]; exact hlp)
                    rw [fill_at _ hlp, if_pos hlp, HCP.out] at x7
                    show OpOk _ _ ev xw fun v w' => Bl xw w' ∧ (v = .int .i64 cp)
                    refine opOk_hid (fun Rp HR => ?_)
                    unfold OpOk
                    go_simp
                    rw [HR.out]
                    exact ⟨hr, rfl⟩
                  refine steps_cons (Bl.refl) (fun ev xw hb hc hf hfr hd hr => ?_) ?_
                  · have e106 : ev (.tmp 106) = .slice (some ⟨gk, 0, none⟩) n n := hd 0 106 (by kernel_rfl)
                    have e107 : ev (.tmp 107) = .int .i64 p := hd 1 107 (by kernel_rfl)
                    clear hfr hd
                    show OpOk _ _ ev xw fun v w' => Bl xw w' ∧ (v = .pointer (some ⟨gk, p, none⟩))
                    refine opOk_hid (fun Rp HR => ?_)
                    unfold OpOk
                    go_simp
                    rw [HR.out]
                    exact ⟨hr, rfl⟩
                  exact steps_nil
                · intro vs W19 hb19 hk
                  have k2 := hk 2 (by omega)
                  change vs 2 = .slice (some ⟨go, 0, none⟩) n n at k2
                  have k3 := hk 3 (by omega)
                  change vs 3 = .int .i64 p at k3
                  have k8 := hk 8 (by omega)
                  change vs 8 = .int .i64 np at k8
                  have k13 := hk 13 (by omega)
                  change vs 13 = .int .i64 cp at k13
                  have k14 := hk 14 (by omega)
                  change vs 14 = .pointer (some ⟨gk, p, none⟩) at k14
                  clear hk
                  simp only [List.take_succ_cons, List.take_zero, List.drop_succ_cons, List.drop_zero, putAll, Act.put, List.setIfInBounds_toArray, List.set_cons_zero, List.set_cons_succ, k2, k3, k8, k13, k14, Nat.reduceAdd, Nat.reduceSub]
                  clear k2 k3 k8 k13 k14
                  refine step_store_nx (by rfl) (by rfl) (by rfl) (g := gk) (i := p) (by rfl) (by rfl) (NK2.below hb19) (show p < (mixL nf K n p).length by rw [mix_len]; exact hlp) ?_
                  intro W20 NK20 hg20
                  have NO20 := (NO2.below hb19).grown hg20 (by intro e; injection e with e; omega)
                  go_wp2_with (refine step_store_nx (by rfl) (by rfl) (by rfl) (g := go) (i := p) (by rfl) (by rfl) NO20 (show p < (mixL cf O n p).length by rw [mix_len]; exact hlp) ?_; intro W21 NO21 hg21)
                  have NK21 := NK20.grown hg21 (by intro e; injection e with e; omega)
                  have b19 : Below B W4 W19 := hbs2.trans (hb19.mono (Nat.le_trans hBW hbs2.size))
                  have b20 : Below B W4 W20 := Below.grown b19 hg20 (Nat.le_trans hBW b19.size) (fun k e => by injection e with e; omega)
                  have b21 : Below B W4 W21 := Below.grown b20 hg21 (Nat.le_trans hBW b20.size) (fun k e => by injection e with e; omega)
                  have NK22 : NxB W21 gk (mixL nf K n (p + 1)) := by
                    rw [← HNP.out, mix_set nf K hlp] at NK21; exact NK21
                  have NO22 : NxB W21 go (mixL cf O n (p + 1)) := by
                    rw [← HCP.out, mix_set cf O hlp] at NO21; exact NO21
                  have s19 := hb19.size
                  have s20 := hg20.size
                  have s21 := hg21.size
                  go_roundw
                  case rel => exact ⟨p + 1, hlp, by go_num, b21, by omega, fun b hb ne1 ne2 => ((hg21.block b (by omega) (fun e => by injection e with e; exact ne2 e)).trans (hg20.block b (by omega) (fun e => by injection e with e; exact ne1 e))).trans ((hb19.block b (by omega)).trans (HFS2.out b hb ne1 ne2)), NK22, NO22⟩
                  case measure => simp [intOf]; omega
            · have hlpZ : ¬ (p : Int) < n := by omega
              have he : p = n := by omega
              subst he
              have C' := (hfs gc (by omega) (by omega) (by omega)).trans C12
              have L' := L12.move (hfs gl' (by omega) (by omega) (by omega))
              have X' := X12.move (hfs gx' (by omega) (by omega) (by omega))
              clear hfs
              go_wp2_with fail
              go_roundw
              case rel => exact ⟨i + 1, gl', cl', gx', cx', c', _, _, hlt, by go_num, hbs, C', L', X', hcl', HV'.out, ⟨by omega, by omega, by omega⟩, ⟨by omega, by omega, by omega⟩, NKs, NOs, mix_len _ _ _ _, mix_len _ _ _ _, fun p hp hk => by
                rw [mix_at _ _ hp, if_pos hp] at hk ⊢
                rw [← HNE.out p] at hk
                exact ⟨(HCE.out p).symm, hk⟩⟩
              case measure => simp [intOf]; omega
      · have hltZ : ¬ (i : Int) < m.length := by omega
        go_wp2_with fail
        refine (awake_any _).mono ?_
        rintro e w1 ⟨rfl, hb1⟩
        go_wp2
        go_ret
        have hwB : w.heap.size ≤ B := by have := hb4.size; have := HBB.out; omega
        have hF := hb4.trans (hbr.mono hwB)
        exact ⟨rfl, hF.trans (hb1.mono hF.size)⟩
end Go.Proofs.Ytmgifmdpjlefcaa
