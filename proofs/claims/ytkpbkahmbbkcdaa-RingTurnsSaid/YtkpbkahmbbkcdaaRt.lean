/-
  The law RingTurns. Conditions: none.
-/
import Derived.Test.YtkpbkahmbbkcdaaCw
import Derived.Test.YtkpbkahmbbkcdaaTs
import Derived.Deep.OwnRows
import Derived.BigQuiet
namespace Go.Proofs.Ytkpbkahmbbkcdaa
open Go.ChangeShapes Go.WideShapes Go.ChangeAt Go.RowKit
set_option linter.unusedVariables false

theorem bool_info : (Try.prog.info? 4).map (fun i => (i.zero, i.size, i.bytes)) = some (some (.bool false), 1, 1) := by kernel_rfl
/-- A block that begins with n truth values. -/
def BoB (w : World) (g n : Nat) (S : Nat → Bool) : Prop := ∃ cs : Array Value, Blk w g 4 cs ∧ ∀ i, i < n → cs[i]? = some (.bool (S i))
theorem BoB.lt {w : World} {g n : Nat} {S : Nat → Bool} (h : BoB w g n S) : g < w.heap.size := by obtain ⟨cs, hB, _⟩ := h; exact hB.lt
theorem BoB.below {w w' : World} {g n : Nat} {S : Nat → Bool} (h : BoB w g n S) (hb : Below w.heap.size w w') : BoB w' g n S := by
  have hl := h.lt
  obtain ⟨cs, hB, hc⟩ := h
  exact ⟨cs, (hb.block g hl).trans hB, hc⟩
theorem BoB.grown {w w' : World} {g n : Nat} {S : Nat → Bool} {row : Option Nat} (h : BoB w g n S) (hb : w.grownBy w' row) (hg : row ≠ some g) : BoB w' g n S := by
  have hl := h.lt
  obtain ⟨cs, hB, hc⟩ := h
  exact ⟨cs, (hb.block g hl (fun e => hg e.symm)).trans hB, hc⟩
theorem BoB.at {w : World} {g n : Nat} {S : Nat → Bool} (h : BoB w g n S) {i : Nat} (hi : i < n) : w.cell? ⟨g, i, none⟩ = some (.bool (S i)) ∧ w.frozen? ⟨g, i, none⟩ = false := by
  obtain ⟨cs, hB, hc⟩ := h
  exact ⟨hB.at _ (hc i hi), hB.frozen _⟩
theorem BoB.set {w : World} {g n : Nat} {S : Nat → Bool} (h : BoB w g n S) {i : Nat} (hi : i < n) (x : Bool) : BoB (w.setCell ⟨g, i, none⟩ (.bool x)) g n (fun j => if j = i then x else S j) := by
  obtain ⟨cs, hB, hc⟩ := h
  refine ⟨_, hB.set_ i (.bool x), fun j hj => ?_⟩
  have hi0 := hc i hi
  have hs : i < cs.size := by
    rcases Nat.lt_or_ge i cs.size with h | h
    · exact h
    · rw [Array.getElem?_eq_none h] at hi0; cases hi0
  by_cases e : j = i
  · subst e; simp [hs]
  · rw [Array.getElem?_setIfInBounds_ne (fun e2 => e e2.symm), hc j hj]; simp [e]
theorem BoB.ne_ct {w : World} {g b n : Nat} {S : Nat → Bool} {cs : Array Value} (h : BoB w g n S) (hB : Blk w b 25 cs) : g ≠ b := fun e => by
  obtain ⟨ds, hd, _⟩ := h
  rw [e] at hd
  have := hd.symm.trans hB
  injection this with this; injection this with _ this; exact absurd this (by decide)
theorem made_bob {w : World} (n : Nat) : BoB (w.alloc (.cells (madeCells #[.bool false] n) 4)) w.heap.size n (fun _ => false) := by
  refine ⟨_, Blk.new, fun i hi => ?_⟩
  unfold madeCells
  simp [Nat.mod_one, hi]
theorem set_t {S : Nat → Bool} {p x : Nat} (h : S x = true) : (if x = p then true else S x) = true := by
  split
  · rfl
  · exact h
theorem set_n {S : Nat → Bool} {p x : Nat} (hx : x < p + 1) (h : x < p → S x = true) : (if x = p then true else S x) = true := by
  split
  · rfl
  · exact h (by omega)
theorem set_f {S : Nat → Bool} {p x : Nat} (hp : S p = false) (h : S x = true) : (if x = p then false else S x) = true := by
  split
  · rename_i e; rw [e, hp] at h; cases h
  · exact h
theorem step_store_bo {ops : Array Oper} {o : Oper} {a : Act} {w : World} {rest : List Oper} {Q : Exit → Act → World → Prop} (hgd : o.guard = none) {p v : Operand} (ho : o.op = .store 4 p v) (hd : o.dst = none) {g i n : Nat} {S : Nat → Bool} {x : Bool} (hp : a.eval p = .pointer (some ⟨g, i, none⟩)) (hv : a.eval v = .bool x) (hL : BoB w g n S) (hi : i < n)
    (h : ∀ w' : World, BoB w' g n (fun j => if j = i then x else S j) → w.grownBy w' (some g) → wpList Try.prog ops Q rest a w') :
    wpList Try.prog ops Q (o :: rest) a w := by
  unfold wpList
  have hw : Region.wanted o (yielded ops a.tmps) = true := by unfold Region.wanted; rw [hgd]
  rw [if_pos hw]
  refine .inl ?_
  obtain ⟨c0, f0⟩ := hL.at hi
  have hk := h _ (hL.set hi x) (grownBy_set w g i _)
  unfold Oper.wp
  simp only [execOp, ho, hp, hv]
  go_simp
  all_goals (first | exact hk | (simp [Act.put, hd]; exact hk))
theorem StdC.big {W wr : World} {B gc n : Nat} {c : Ct} (h : StdC W wr B gc n c) (hB : B ≤ W.heap.size) : B ≤ wr.heap.size := by
  obtain ⟨_, _, _, _, h, _⟩ := h
  exact Nat.le_trans hB h.size
theorem S_alloc {W wr : World} {B gc n : Nat} {c : Ct} (h : StdC W wr B gc n c) (hB : B ≤ wr.heap.size) (o : Obj) : StdC W (wr.alloc o) B gc n c := h.grow hB (lat_alloc (Below.refl _ _) o)
theorem sum_dur_bd {P : List Ph} {C : List Int} {n : Nat} {st : Int} (hj : JunC P C n st) : ∀ k, k ≤ n → 0 ≤ sumF (fun p => durV (phAt P p) + 1) k ∧ sumF (fun p => durV (phAt P p) + 1) k ≤ 12 * (k : Int)
  | 0, _ => by simp [sumF]
  | k + 1, hk => by
    have ih := sum_dur_bd hj k (by omega)
    have h1 := dur_bd hj (show k < n by omega)
    rw [sumF]
    push_cast
    omega
set_option maxRecDepth 40000 in
set_option maxHeartbeats 8000000 in
theorem turns_any (A0 : Option Addr) (cA : Nat) (l : List Int) (B0 : Option Addr) (cB : Nat) (m : List Int) (w : World) (hs : Ints .i64 w w.heap.size A0 l) (hn : Nums l) (hl : l.length ≤ 9223372036854775807) (hsm0 : Ints .i64 w w.heap.size B0 m) (hnm : Nums m) (hlm : m.length ≤ 9223372036854775807) :
    Calls Try.prog 8 #[.slice A0 l.length cA, .slice B0 m.length cB] w fun e w' => e = .returned (.bool true) ∧ Below w.heap.size w w' := by
  go_enter Try.func8, Try.ntmps8
  go_wp2_with fail
  refine (new_ok A0 l cA _ hs hn hl).mono ?_
  rintro e w2 ⟨rfl, hdk, hb2, hlt2⟩
  go_wp2_with fail
  refine (junction_any w.heap.size w2 hdk).mono ?_
  rintro e w3 ⟨hgr, hdk3, q, st, ex, P, A1, B1, cU, cW, rfl, hj, hP, hI, hA1, hB1, hcU, hdW⟩
  have hb3 := hgr.base hb2 (Nat.le_refl _)
  have hjc := junC_drawn hj
  have hjv := jun_drawn hj
  obtain ⟨n, hnn⟩ : ∃ n, P.length = n := ⟨_, rfl⟩
  obtain ⟨C, hCC⟩ : ∃ C, rowsL P ex = C := ⟨_, rfl⟩
  rw [hnn, hCC] at hjc
  rw [hCC] at hI hjv
  rw [hnn] at hcU hdW ⊢
  have HN := Lib.hid hnn
  have HRC := Lib.hid hjc.rows.len
  clear hnn hCC hgr hdk hdk3 hb2 hj hA1 hB1
  have h1 := hjc.h1
  have h8 := hjc.h8
  obtain ⟨bA, oA, rfl, hbA, _⟩ := hP (by have := HN.out; omega)
  obtain ⟨bB, oB, rfl, hbB, _⟩ := hI (by have := HRC.out; omega)
  have bJ := lat_alloc (Below.refl w3.heap.size w3) (.cells #[.slice (some ⟨bA, oA, none⟩) n cU, .slice (some ⟨bB, oB, none⟩) n cW, .int .i64 st] 30)
  have BJ := Blk.new (w := w3) (t := 30) (cs := #[.slice (some ⟨bA, oA, none⟩) n cU, .slice (some ⟨bB, oB, none⟩) n cW, .int .i64 st])
  have hI4 := hI.grow bJ
  have hP4 := hP.grow bJ
  have hb4 := hb3.trans (bJ.mono hb3.size)
  have hsm := (hsm0.below hb4).more hb4.size
  go_wp2_with fail
  have HGC := Lib.hid (heap_size w3 (.cells #[.slice (some ⟨bA, oA, none⟩) n cU, .slice (some ⟨bB, oB, none⟩) n cW, .int .i64 st] 30))
  generalize w3.alloc (.cells #[.slice (some ⟨bA, oA, none⟩) n cU, .slice (some ⟨bB, oB, none⟩) n cW, .int .i64 st] 30) = W4 at *
  generalize w3.heap.size = gj at *
  clear bJ hI hP hb3 hs hsm0
  obtain ⟨B, hBB⟩ : ∃ B, W4.heap.size = B := ⟨_, rfl⟩
  have HBB := Lib.hid hBB
  have hgjB : gj < B := by have := HGC.out; omega
  have hbAB : bA < B := by have := HGC.out; omega
  have hbBB : bB < B := by have := HGC.out; omega
  have hBW : B ≤ W4.heap.size := by omega
  have hBWle : B ≤ W4.heap.size := hBW
  have hwB : w.heap.size ≤ B := by have := hb4.size; omega
  rw [hBB] at hI4 hP4 hsm
  clear hBB
  refine wp_region_invs 6 99 (JW W4 B n P C st (.slice B0 m.length cB) (.agg #[.slice (some ⟨bA, oA, none⟩) n cU, .slice (some ⟨bB, oB, none⟩) n cW, .int .i64 st])) (by kernel_rfl) (fun _ _ d _ _ h => by cases d <;> exact h) rfl (by kernel_rfl) (JW.start HBB.out.symm) ?_ ?_
  · intro k' o hk' ho
    have hk6 : k' = 0 ∨ k' = 1 ∨ k' = 2 ∨ k' = 3 ∨ k' = 4 ∨ k' = 5 := by omega
    rcases hk6 with rfl | rfl | rfl | rfl | rfl | rfl
    · obtain rfl := Option.some.inj ho
      intro lst vs ev xw hJ hl hc hf hfr hd
      have e1 : ev (.tmp 1) = .slice B0 m.length cB := hfr 1 (frm_of (by kernel_rfl))
      clear hfr hd
      refine opS_hid (fun Rp HR => ?_)
      unfold OpS
      go_simp
      rw [HR.out]
      exact hJ.op0 rfl
    · obtain rfl := Option.some.inj ho
      intro lst vs ev xw hJ hl hc hf hfr hd
      have dx18 := hd 0 18 (by kernel_rfl) rfl
      have ex18 : ev (.tmp 18) = .slice B0 m.length cB := dx18.2.trans (hJ.v0 dx18.1)
      clear hfr hd dx18
      have hb := hJ.grew
      have hbig := hJ.big
      refine opS_hid (fun Rp HR => ?_)
      unfold OpS
      go_simp
      refine (new_ok B0 m cB xw (hsm.low hb (Nat.le_of_eq HBB.out.symm)) hnm hlm).mono ?_
      rintro e w'' ⟨rfl, h1, h2, h3⟩
      refine ⟨_, rfl, ?_⟩
      rw [HR.out]
      exact hJ.op1 hl rfl h1 h2
    · obtain rfl := Option.some.inj ho
      intro lst vs ev xw hJ hl hc hf hfr hd
      have e7 : ev (.tmp 5) = .pointer (some ⟨gj, 0, none⟩) := hfr 5 (frm_of (by kernel_rfl))
      clear hfr hd
      have hb := hJ.grew
      have Jx := BJ.low hb hgjB
      have k0 := Jx.at 0 rfl
      have k1 := Jx.at 1 rfl
      have k2 := Jx.at 2 rfl
      refine opS_hid (fun Rp HR => ?_)
      unfold OpS
      go_simp
      rw [HR.out]
      exact hJ.op2 rfl
    · obtain rfl := Option.some.inj ho
      intro lst vs ev xw hJ hl hc hf hfr hd
      have dx19 := hd 1 19 (by kernel_rfl) rfl
      have dx20 := hd 2 20 (by kernel_rfl) rfl
      obtain ⟨g, g1, g2, g3, g4⟩ := hJ.v1 dx19.1
      have ex19 : ev (.tmp 19) = .pointer (some ⟨g, 0, none⟩) := dx19.2.trans g1
      have ex20 : ev (.tmp 20) = .agg #[.slice (some ⟨bA, oA, none⟩) n cU, .slice (some ⟨bB, oB, none⟩) n cW, .int .i64 st] := dx20.2.trans (hJ.v2 dx20.1)
      have hdk := g4 hl
      have h1 := dx19.1
      have hb := hJ.grew
      clear hfr hd dx19 dx20
      refine opS_hid (fun Rp HR => ?_)
      unfold OpS
      go_simp
      refine (control_w g (some ⟨bA, oA, none⟩) (some ⟨bB, oB, none⟩) cU cW n P C st xw hjc hjv hdk (hP4.low hb (Nat.le_of_eq HBB.out.symm)) (hI4.low hb (Nat.le_of_eq HBB.out.symm)) (fun a ha => by injection ha with ha; subst ha; show bA ≠ g; omega) (fun a ha => by injection ha with ha; subst ha; show bB ≠ g; omega)).mono ?_
      rintro e w'' ⟨v, rfl, q1, q2, c, q3, q4⟩
      refine ⟨_, rfl, ?_⟩
      rw [HR.out]
      exact hJ.op3 HBB.out hl h1 g1 g2 q1 q3 q4
    · obtain rfl := Option.some.inj ho
      intro lst vs ev xw hJ hl hc hf hfr hd
      clear hfr hd
      refine opS_hid (fun Rp HR => ?_)
      unfold OpS
      go_simp
      rw [HR.out]
      exact hJ.op4 hl rfl
    · obtain rfl := Option.some.inj ho
      intro lst vs ev xw hJ hl hc hf hfr hd
      have d8 := hd 4 6 (by kernel_rfl) rfl
      have dx21 := hd 3 21 (by kernel_rfl) rfl
      obtain ⟨g, g1, g2, g3, _⟩ := hJ.v4 d8.1
      obtain ⟨c, q1, gl, cl, gx, cx, q2, q3, q4, q5, q6⟩ := hJ.v3 dx21.1
      have e8 : ev (.tmp 6) = .pointer (some ⟨g, 0, none⟩) := d8.2.trans g1
      have ex21 : ev (.tmp 21) = .agg #[.slice (some ⟨gl, 0, none⟩) n cl, .int .i64 c.gr, .slice (some ⟨gx, 0, none⟩) 2 cx, .int .i64 c.wt] := dx21.2.trans q2
      have h3 := dx21.1
      have h4 := d8.1
      have hB := g3 hl
      clear hfr hd d8 dx21
      have hB : Blk xw g 25 #[.slice none 0 0, .int .i64 0, .slice none 0 0, .int .i64 0] := hB
      have f0 := hB.frozen 0
      have f1 := hB.frozen 1
      have f2 := hB.frozen 2
      have f3 := hB.frozen 3
      have c0 := hB.at 0 rfl
      have cU := hB.at 1 rfl
      have c2 := hB.at 2 rfl
      have c3 := hB.at 3 rfl
      have hst4 := hB.set4 (.slice (some ⟨gl, 0, none⟩) n cl) (.int .i64 c.gr) (.slice (some ⟨gx, 0, none⟩) 2 cx) (.int .i64 c.wt)
      have hgr4 := grownBy_setAt (grownBy_setAt (grownBy_setAt (grownBy_set xw g 0 (.slice (some ⟨gl, 0, none⟩) n cl)) g 1 (.int .i64 c.gr) rfl) g 2 (.slice (some ⟨gx, 0, none⟩) 2 cx) rfl) g 3 (.int .i64 c.wt) rfl
      refine opS_hid (fun Rp HR => ?_)
      unfold OpS
      go_simp
      rw [HR.out]
      exact hJ.op5 hl h3 h4 g1 q2 hgr4 hst4
  · intro vs w5 hJ
    have k0 := hJ.v0 rfl
    obtain ⟨g, k1, _, _, _⟩ := hJ.v1 rfl
    have k2 := hJ.v2 rfl
    obtain ⟨c0, hv0, gl, cl, gx, cx, k3, hgl, hgx, L6, N6⟩ := hJ.v3 rfl
    obtain ⟨gc, k4, hBgc, _, r2⟩ := hJ.v4 rfl
    obtain ⟨cs, r3, BC⟩ := r2 rfl
    rw [k3] at r3
    injection r3 with r3
    subst r3
    have b6 := hJ.grew
    simp only [List.take_succ_cons, List.take_zero, List.drop_succ_cons, List.drop_zero, putAll, Act.put, List.setIfInBounds_toArray, List.set_cons_zero, List.set_cons_succ, k0, k1, k2, k3, k4, Nat.reduceAdd, Nat.reduceSub]
    clear hJ k0 k1 k2 k3 k4
    have hlc : gl ≠ gc := L6.ne_ct BC
    have hxc : gx ≠ gc := N6.ne_ct BC
    unfold wpList
    have S6 : StdC W4 w5 B gc n c0 := ⟨gl, cl, gx, cx, b6, BC, L6, N6, hlc, hxc⟩
    have J5 := BJ.low b6 hgjB
    have j0 := J5.at 0 rfl; have j1 := J5.at 1 rfl; have j2 := J5.at 2 rfl
    have hstb := hjc.st
    have zs : IntKind.i64.wrap (st + 1) = st + 1 := by rw [IntKind.wrap_i64]; omega
    have hw5 : B ≤ w5.heap.size := Nat.le_trans hBW b6.size
    clear BC L6 N6 hlc hxc hgl hgx hsm
    go_wp2_with fail
    clear j0 j1 j2 zs
    go_loopw [7, 28] (fun s7 v wr => ∃ i : Nat, i ≤ n ∧ s7 = .int .i64 (st + 1 + sumF (fun p => durV (phAt P p) + 1) i) ∧ v = .int .i64 i ∧ Below w5.heap.size w5 wr) (fun _ v _ => n - (intOf v).toNat)
    case atStart => exact ⟨0, Nat.zero_le _, by simp [sumF], rfl, Below.refl _ _⟩
    case round =>
      obtain ⟨i, hi, rfl, rfl, hbr⟩ := hrel
      have Br := b6.trans (hbr.mono hw5)
      have hsb := sum_dur_bd hjc i hi
      by_cases hlt : i < n
      · as_aux_lemma =>
        clear S6 hv0
        have hltZ : (i : Int) < n := by omega
        obtain ⟨bA', oA', hA', hbA', hph⟩ := hP4.low Br hBW (by have := HN.out; omega)
        injection Option.some.inj hA' with hA2 hA3 _
        subst hA2; subst hA3
        have hXp := hph i (by have := HN.out; omega)
        have hok := hjc.pok i hlt
        have HSU := Lib.hid (show sumF (fun p => durV (phAt P p) + 1) (i + 1) = sumF (fun p => durV (phAt P p) + 1) i + (durV (phAt P i) + 1) by rw [sumF])
        generalize phAt P i = x at hXp hok HSU
        generalize sumF (fun p => durV (phAt P p) + 1) i = Sm at *
        obtain ⟨S, hS⟩ : ∃ S, st + 1 + Sm = S := ⟨_, rfl⟩
        have HSE := Lib.hid hS
        have hSb : 0 ≤ S ∧ S ≤ 1000 := by omega
        rw [hS]
        have HPX := Lib.hid hok
        have hn1 := need_mx hok
        have hn2 := hok.yl
        have hn3 := hok.rd
        have HSU : Hid (sumF (fun p => durV (phAt P p) + 1) (i + 1) = S - st - 1 + (durV x + 1)) := Lib.hid (by rw [HSU.out]; omega)
        clear hph hA' hbA' hS hok hsb
        obtain ⟨x0, x1, x2, x3, x4, x5, x6, x7⟩ := hXp
        have B9 := Blk.new (w := wr) (t := 51) (cs := #[.int .i64 x.ri, .int .i64 x.gr, .int .i64 x.mn, .int .i64 x.mx, .int .i64 x.yl, .int .i64 x.rd, .int .i64 x.wk, .int .i64 x.cl])
        have bX := lat_alloc (Below.refl wr.heap.size wr) (.cells #[.int .i64 x.ri, .int .i64 x.gr, .int .i64 x.mn, .int .i64 x.mx, .int .i64 x.yl, .int .i64 x.rd, .int .i64 x.wk, .int .i64 x.cl] 51)
        go_wp2_with fail
        clear x0 x1 x2 x3 x4 x5 x6 x7
        generalize wr.alloc (.cells #[.int .i64 x.ri, .int .i64 x.gr, .int .i64 x.mn, .int .i64 x.mx, .int .i64 x.yl, .int .i64 x.rd, .int .i64 x.wk, .int .i64 x.cl] 51) = W8 at *
        obtain ⟨g9, hg9⟩ : ∃ g9, wr.heap.size = g9 := ⟨_, rfl⟩
        rw [hg9] at B9 ⊢
        refine wp_region_pre (R := Bl) 14 99 [fun v _ => v = .int .i64 S, fun v _ => v = .pointer (some ⟨g9, 3, none⟩), fun v _ => v = .int .i64 x.mx, fun v _ => v = .agg #[.int .i64 x.ri, .int .i64 x.gr, .int .i64 x.mn, .int .i64 x.mx, .int .i64 x.yl, .int .i64 x.rd, .int .i64 x.wk, .int .i64 x.cl], fun v _ => v = .int .i64 (needV x), fun v _ => v = .int .i64 x.mx, fun v _ => v = .pointer (some ⟨g9, 4, none⟩), fun v _ => v = .int .i64 x.yl, fun v _ => v = .int .i64 (x.mx + x.yl), fun v _ => v = .pointer (some ⟨g9, 5, none⟩), fun v _ => v = .int .i64 x.rd, fun v _ => v = .int .i64 (x.mx + x.yl + x.rd), fun v _ => v = .int .i64 (x.mx + x.yl + x.rd + 1), fun v _ => v = .int .i64 (S + (x.mx + x.yl + x.rd + 1))] (Bl.trans) (Bl.drew) (by kernel_rfl) (fun _ _ d _ _ h => by cases d <;> exact h) rfl (by kernel_rfl) (stay_cons (stays_v _) (stay_cons (stays_v _) (stay_cons (stays_v _) (stay_cons (stays_v _) (stay_cons (stays_v _) (stay_cons (stays_v _) (stay_cons (stays_v _) (stay_cons (stays_v _) (stay_cons (stays_v _) (stay_cons (stays_v _) (stay_cons (stays_v _) (stay_cons (stays_v _) (stay_cons (stays_v _) (stay_cons (stays_v _) (stay_nil))))))))))))))) ?_ ?_
        · simp only [List.take_succ_cons, List.take_zero]
          refine steps_cons (Bl.refl) (fun ev xw hb hc hf hfr hd hr => ?_) ?_
          · have e7 : ev (.tmp 7) = .int .i64 S := hfr 7 (by kernel_rfl)
            clear hfr hd
            show OpOk _ _ ev xw fun v w' => Bl xw w' ∧ (v = .int .i64 S)
            refine opOk_hid (fun Rp HR => ?_)
            unfold OpOk
            go_simp
            rw [HR.out]
            exact ⟨hr, rfl⟩
          refine steps_cons (Bl.refl) (fun ev xw hb hc hf hfr hd hr => ?_) ?_
          · have e9 : ev (.tmp 9) = .pointer (some ⟨g9, 0, none⟩) := hfr 9 (by kernel_rfl)
            clear hfr hd
            show OpOk _ _ ev xw fun v w' => Bl xw w' ∧ (v = .pointer (some ⟨g9, 3, none⟩))
            refine opOk_hid (fun Rp HR => ?_)
            unfold OpOk
            go_simp
            rw [HR.out]
            exact ⟨hr, rfl⟩
          refine steps_cons (Bl.refl) (fun ev xw hb hc hf hfr hd hr => ?_) ?_
          · have e33 : ev (.tmp 33) = .pointer (some ⟨g9, 3, none⟩) := hd 1 33 (by kernel_rfl)
            clear hfr hd
            have k3 := (B9.below hb).at 3 rfl
            show OpOk _ _ ev xw fun v w' => Bl xw w' ∧ (v = .int .i64 x.mx)
            refine opOk_hid (fun Rp HR => ?_)
            unfold OpOk
            go_simp
            rw [HR.out]
            exact ⟨hr, rfl⟩
          refine steps_cons (Bl.refl) (fun ev xw hb hc hf hfr hd hr => ?_) ?_
          · have e9 : ev (.tmp 9) = .pointer (some ⟨g9, 0, none⟩) := hfr 9 (by kernel_rfl)
            clear hfr hd
            have k0 := (B9.below hb).at 0 rfl
            have k1 := (B9.below hb).at 1 rfl
            have k2 := (B9.below hb).at 2 rfl
            have k3 := (B9.below hb).at 3 rfl
            have k4 := (B9.below hb).at 4 rfl
            have k5 := (B9.below hb).at 5 rfl
            have k6 := (B9.below hb).at 6 rfl
            have k7 := (B9.below hb).at 7 rfl
            show OpOk _ _ ev xw fun v w' => Bl xw w' ∧ (v = .agg #[.int .i64 x.ri, .int .i64 x.gr, .int .i64 x.mn, .int .i64 x.mx, .int .i64 x.yl, .int .i64 x.rd, .int .i64 x.wk, .int .i64 x.cl])
            refine opOk_hid (fun Rp HR => ?_)
            unfold OpOk
            go_simp
            rw [HR.out]
            exact ⟨hr, rfl⟩
          refine steps_cons (Bl.refl) (fun ev xw hb hc hf hfr hd hr => ?_) ?_
          · have e35 : ev (.tmp 35) = .agg #[.int .i64 x.ri, .int .i64 x.gr, .int .i64 x.mn, .int .i64 x.mx, .int .i64 x.yl, .int .i64 x.rd, .int .i64 x.wk, .int .i64 x.cl] := hd 3 35 (by kernel_rfl)
            clear hfr hd
            show OpOk _ _ ev xw fun v w' => Bl xw w' ∧ (v = .int .i64 (needV x))
            refine opOk_hid (fun Rp HR => ?_)
            unfold OpOk
            go_simp
            refine (lneed_any x xw HPX.out).mono ?_
            rintro e w'' ⟨rfl, hw⟩
            refine ⟨_, rfl, ?_⟩
            rw [HR.out]
            exact ⟨hw, rfl⟩
          refine steps_cons (Bl.refl) (fun ev xw hb hc hf hfr hd hr => ?_) ?_
          · have e34 : ev (.tmp 34) = .int .i64 x.mx := hd 2 34 (by kernel_rfl)
            have e36 : ev (.tmp 36) = .int .i64 (needV x) := hd 4 36 (by kernel_rfl)
            clear hfr hd
            show OpOk _ _ ev xw fun v w' => Bl xw w' ∧ (v = .int .i64 x.mx)
            refine opOk_hid (fun Rp HR => ?_)
            unfold OpOk
            go_simp
            rw [HR.out]
            exact ⟨hr, by first | rfl | (rw [show (if x.mx < needV x then needV x else x.mx) = x.mx from by split <;> omega]) | (congr 1; omega)⟩
          refine steps_cons (Bl.refl) (fun ev xw hb hc hf hfr hd hr => ?_) ?_
          · have e9 : ev (.tmp 9) = .pointer (some ⟨g9, 0, none⟩) := hfr 9 (by kernel_rfl)
            clear hfr hd
            show OpOk _ _ ev xw fun v w' => Bl xw w' ∧ (v = .pointer (some ⟨g9, 4, none⟩))
            refine opOk_hid (fun Rp HR => ?_)
            unfold OpOk
            go_simp
            rw [HR.out]
            exact ⟨hr, rfl⟩
          refine steps_cons (Bl.refl) (fun ev xw hb hc hf hfr hd hr => ?_) ?_
          · have e38 : ev (.tmp 38) = .pointer (some ⟨g9, 4, none⟩) := hd 6 38 (by kernel_rfl)
            clear hfr hd
            have k4 := (B9.below hb).at 4 rfl
            show OpOk _ _ ev xw fun v w' => Bl xw w' ∧ (v = .int .i64 x.yl)
            refine opOk_hid (fun Rp HR => ?_)
            unfold OpOk
            go_simp
            rw [HR.out]
            exact ⟨hr, rfl⟩
          refine steps_cons (Bl.refl) (fun ev xw hb hc hf hfr hd hr => ?_) ?_
          · have e37 : ev (.tmp 37) = .int .i64 x.mx := hd 5 37 (by kernel_rfl)
            have e39 : ev (.tmp 39) = .int .i64 x.yl := hd 7 39 (by kernel_rfl)
            clear hfr hd
            have zw : IntKind.i64.wrap (x.mx + x.yl) = x.mx + x.yl := by rw [IntKind.wrap_i64]; omega
            show OpOk _ _ ev xw fun v w' => Bl xw w' ∧ (v = .int .i64 (x.mx + x.yl))
            refine opOk_hid (fun Rp HR => ?_)
            unfold OpOk
            go_simp
            rw [HR.out]
            exact ⟨hr, rfl⟩
          refine steps_cons (Bl.refl) (fun ev xw hb hc hf hfr hd hr => ?_) ?_
          · have e9 : ev (.tmp 9) = .pointer (some ⟨g9, 0, none⟩) := hfr 9 (by kernel_rfl)
            clear hfr hd
            show OpOk _ _ ev xw fun v w' => Bl xw w' ∧ (v = .pointer (some ⟨g9, 5, none⟩))
            refine opOk_hid (fun Rp HR => ?_)
            unfold OpOk
            go_simp
            rw [HR.out]
            exact ⟨hr, rfl⟩
          refine steps_cons (Bl.refl) (fun ev xw hb hc hf hfr hd hr => ?_) ?_
          · have e41 : ev (.tmp 41) = .pointer (some ⟨g9, 5, none⟩) := hd 9 41 (by kernel_rfl)
            clear hfr hd
            have k5 := (B9.below hb).at 5 rfl
            show OpOk _ _ ev xw fun v w' => Bl xw w' ∧ (v = .int .i64 x.rd)
            refine opOk_hid (fun Rp HR => ?_)
            unfold OpOk
            go_simp
            rw [HR.out]
            exact ⟨hr, rfl⟩
          refine steps_cons (Bl.refl) (fun ev xw hb hc hf hfr hd hr => ?_) ?_
          · have e40 : ev (.tmp 40) = .int .i64 (x.mx + x.yl) := hd 8 40 (by kernel_rfl)
            have e42 : ev (.tmp 42) = .int .i64 x.rd := hd 10 42 (by kernel_rfl)
            clear hfr hd
            have zw : IntKind.i64.wrap (x.mx + x.yl + x.rd) = x.mx + x.yl + x.rd := by rw [IntKind.wrap_i64]; omega
            show OpOk _ _ ev xw fun v w' => Bl xw w' ∧ (v = .int .i64 (x.mx + x.yl + x.rd))
            refine opOk_hid (fun Rp HR => ?_)
            unfold OpOk
            go_simp
            rw [HR.out]
            exact ⟨hr, rfl⟩
          refine steps_cons (Bl.refl) (fun ev xw hb hc hf hfr hd hr => ?_) ?_
          · have e43 : ev (.tmp 43) = .int .i64 (x.mx + x.yl + x.rd) := hd 11 43 (by kernel_rfl)
            clear hfr hd
            have zw : IntKind.i64.wrap (x.mx + x.yl + x.rd + 1) = x.mx + x.yl + x.rd + 1 := by rw [IntKind.wrap_i64]; omega
            show OpOk _ _ ev xw fun v w' => Bl xw w' ∧ (v = .int .i64 (x.mx + x.yl + x.rd + 1))
            refine opOk_hid (fun Rp HR => ?_)
            unfold OpOk
            go_simp
            rw [HR.out]
            exact ⟨hr, rfl⟩
          refine steps_cons (Bl.refl) (fun ev xw hb hc hf hfr hd hr => ?_) ?_
          · have e32 : ev (.tmp 32) = .int .i64 S := hd 0 32 (by kernel_rfl)
            have e44 : ev (.tmp 44) = .int .i64 (x.mx + x.yl + x.rd + 1) := hd 12 44 (by kernel_rfl)
            clear hfr hd
            have zw : IntKind.i64.wrap (S + (x.mx + x.yl + x.rd + 1)) = S + (x.mx + x.yl + x.rd + 1) := by rw [IntKind.wrap_i64]; omega
            show OpOk _ _ ev xw fun v w' => Bl xw w' ∧ (v = .int .i64 (S + (x.mx + x.yl + x.rd + 1)))
            refine opOk_hid (fun Rp HR => ?_)
            unfold OpOk
            go_simp
            rw [HR.out]
            exact ⟨hr, rfl⟩
          exact steps_nil
        · intro vs W9 hb9 hk
          have k13 : vs 13 = .int .i64 (S + (x.mx + x.yl + x.rd + 1)) := hk 13 (by omega)
          clear hk
          simp only [List.take_succ_cons, List.take_zero, List.drop_succ_cons, List.drop_zero, putAll, Act.put, List.setIfInBounds_toArray, List.set_cons_zero, List.set_cons_succ, k13, Nat.reduceAdd]
          go_wp2_with fail
          go_roundw
          case rel => exact ⟨i + 1, hlt, by rw [HSU.out]; unfold durV; congr 1; omega, by go_num, hbr.trans (Below.mono (bX.trans (Below.mono hb9 bX.size)) hbr.size)⟩
          case measure => simp [intOf]; omega
      · as_aux_lemma =>
        have hltZ : ¬ (i : Int) < n := by omega
        have hin : i = n := by omega
        rw [hin] at hsb ⊢
        have S7 := S6.grow hw5 hbr
        obtain ⟨M, hM⟩ : ∃ M : Nat, st + 1 + sumF (fun p => durV (phAt P p) + 1) n = M := ⟨(st + 1 + sumF (fun p => durV (phAt P p) + 1) n).toNat, by omega⟩
        have HM := Lib.hid (show mostV P n st = M from hM)
        rw [hM]
        have hMb : M ≤ 1000 := by omega
        clear hM hsb hin S6 b6 hbr hi hlt
        go_wp2_with fail
        clear hltZ
        go_loopw [47] (fun v wr => ∃ (t : Nat) (c : Ct), t ≤ 2 ∧ v = .int .i64 t ∧ StdC W4 wr B gc n c ∧ CtW P C n st c) (fun v _ => 2 - (intOf v).toNat)
        case atStart => exact ⟨0, c0, by omega, rfl, S7, hv0⟩
        case round =>
          obtain ⟨t, c, ht, rfl, hS, hvc⟩ := hrel
          clear S7 hv0
          by_cases htl : t < 2
          · as_aux_lemma =>
            have htZ : (t : Int) < 2 := by omega
            have hB0 : Below B W4 wr := by obtain ⟨_, _, _, _, h, _⟩ := hS; exact h
            have j0 := (BJ.low hB0 hgjB).at 0 rfl
            have zm : IntKind.i64.wrap (2 * (M : Int)) = 2 * (M : Int) := by rw [IntKind.wrap_i64]; omega
            have hwr : B ≤ wr.heap.size := Nat.le_trans hBW hB0.size
            go_wp2_with (obtain ⟨ii, hi0, hi1, hi2, hi3⟩ := info_parts bool_info; refine wpList_make_row _ rfl _ _ 55 rfl 4 ii (.bool false) Try.underlying55 hi0 hi1 hi2 rfl .i64 .i64 n rfl rfl (by rw [hi3]; omega) (by omega) ?_)
            clear j0
            have S1 := S_alloc hS hwr (.cells (madeCells #[.bool false] n) 4)
            have N1 := made_bob (w := wr) n
            generalize wr.alloc (.cells (madeCells #[.bool false] n) 4) = W1 at *
            obtain ⟨gs, hgs⟩ : ∃ gs, wr.heap.size = gs := ⟨_, rfl⟩
            rw [hgs] at N1 hwr ⊢
            have hp0 : ∀ x, x < n → (fun _ => false : Nat → Bool) x = true ∨ phi P n c x + (0 : Nat) ≤ 2 * (M : Int) - 1 := fun x hx => by
              have := phi_bd hjc hvc.v x
              have h9 := HM.out
              right; omega
            clear hgs hS hB0
            go_loopw [55] (fun v wr => ∃ (i : Nat) (c : Ct) (S : Nat → Bool), i ≤ 2 * M ∧ v = .int .i64 i ∧ StdC W4 wr B gc n c ∧ CtW P C n st c ∧ BoB wr gs n S ∧ ∀ x, x < n → S x = true ∨ phi P n c x + (i : Nat) ≤ 2 * (M : Int) - 1) (fun v _ => 2 * M - (intOf v).toNat)
            case atStart => exact ⟨0, c, _, Nat.zero_le _, rfl, S1, hvc, N1, hp0⟩
            case round =>
              obtain ⟨i, c, S, hi, rfl, hS, hvc, Ns, hph⟩ := hrel
              clear S1 N1 hp0
              by_cases hlt : i < 2 * M
              · as_aux_lemma =>
                have hltZ : (i : Int) < 2 * (M : Int) := by omega
                obtain ⟨gl, cl, gx, cx, Br, Cr, Lr, Nr, hlc, hxc⟩ := hS
                have Jr := BJ.low Br hgjB
                have j0 := Jr.at 0 rfl; have j1 := Jr.at 1 rfl; have j2 := Jr.at 2 rfl
                have a0 := Cr.at 0 rfl; have a1 := Cr.at 1 rfl; have a2 := Cr.at 2 rfl; have a3 := Cr.at 3 rfl
                have hvs := step_w hjc hjv hvc (-1)
                have hst := fun x (hx : x < n) => step_phi hjc hjv hvc hx
                have hstp := pstep_any (some ⟨bA, oA, none⟩) (some ⟨bB, oB, none⟩) (some ⟨gl, 0, none⟩) (some ⟨gx, 0, none⟩) cU cW cl cx n P C c st (-1) wr hjc hjv hvc.v (hP4.low Br hBW) (hI4.low Br hBW) hcU Lr.prs Nr.ints
                obtain ⟨s, hss⟩ : ∃ s, stepC P C n c (-1) = s := ⟨_, rfl⟩
                rw [hss] at hvs hst hstp
                have HVS := Lib.hid hvs
                have HSP := Lib.hid hst
                have HPH := Lib.hid hph
                have HST := Lib.hid hstp
                have HLI := Lib.hid hvs.v.li
                clear hss hvs hst hph hstp hvc
                go_wp2_with fail
                refine (HST.out).mono ?_
                rintro e w12 ⟨v, rfl, b12, gl2, cl2, gx2, cx2, rfl, ⟨hgl2, hcl2⟩, hgx2, L12, N12⟩
                clear HST
                have hgcs := Cr.lt
                have hgss := Ns.lt
                have C12 := Cr.below b12
                have S12 := Ns.below b12
                have B12 := Br.trans (b12.mono (Nat.le_trans hBW Br.size))
                have hlc2 : gl2 ≠ gc := by omega
                have hxc2 : gx2 ≠ gc := by omega
                have hls2 : gl2 ≠ gs := by omega
                have hxs2 : gx2 ≠ gs := by omega
                have hsc : gs ≠ gc := S12.ne_ct C12
                have zneq : ((n : Int) != (n : Int)) = false := by simp
                clear j0 j1 j2 a0 a1 a2 a3 Br Cr Jr Lr Nr Ns b12
                go_wp2_with (refine step_store_ct (by rfl) (by rfl) (by rfl) (by rfl) (by rfl) C12 ?_; intro w13 C13 hg13; have a0 := C13.at 0 rfl)
                have L13 := L12.grown hg13 (by intro e; injection e with e; exact hlc2 e.symm)
                have N13 := N12.grown hg13 (by intro e; injection e with e; exact hxc2 e.symm)
                have S13 := S12.grown hg13 (by intro e; injection e with e; exact hsc e.symm)
                have B13 : Below B W4 w13 := B12.grown hg13 (Nat.le_trans hBW B12.size) (fun k e => by injection e with e; omega)
                clear a0 L12 N12 C12 S12 B12 hg13
                go_loopw [69] (fun v wr => ∃ (p : Nat) (S' : Nat → Bool), p ≤ n ∧ v = .int .i64 p ∧ w13.grownBy wr (some gs) ∧ BoB wr gs n S' ∧ (∀ x, x < n → S x = true → S' x = true) ∧ ∀ x, x < p → lmp s.li x = 1 → S' x = true) (fun v _ => n - (intOf v).toNat)
                case atStart => exact ⟨0, S, by omega, rfl, World.grownBy.refl _ _, S13, fun _ _ h => h, fun x h => absurd h (by omega)⟩
                case round =>
                  obtain ⟨p, S', hp, rfl, hgw, Ns, hk1, hk2⟩ := hrel
                  have HK1 := Lib.hid hk1
                  have HK2 := Lib.hid hk2
                  clear hk1 hk2
                  by_cases hlp : p < n
                  · as_aux_lemma =>
                    have hltZ2 : (p : Int) < n := by omega
                    obtain ⟨l0, l1, f0, f1⟩ := (L13.grown hgw (by intro e; injection e with e; exact hls2 e.symm)).at (i := p) (by rw [HLI.out]; exact hlp)
                    clear f0 f1
                    obtain ⟨ls, hls⟩ : ∃ ls, (prAt s.li p).1 = ls := ⟨_, rfl⟩
                    obtain ⟨ks, hks⟩ : ∃ ks, (prAt s.li p).2 = ks := ⟨_, rfl⟩
                    have HLS := Lib.hid (show lmp s.li p = ls from hls)
                    rw [hls] at l0
                    rw [hks] at l1
                    clear hls hks
                    have T8 := Blk.new (w := wr) (t := 45) (cs := #[.int .i64 ls, .int .i64 ks])
                    have bx := lat_alloc (Below.refl wr.heap.size wr) (.cells #[.int .i64 ls, .int .i64 ks] 45)
                    have hg8 := grown_more hgw (grown_of_below (row := some gs) bx) (fun j e => .inr e)
                    have N8 := Ns.below bx
                    have u0 := T8.at 0 rfl
                    have m0 := (N8.at hlp).1
                    obtain ⟨bv, hbv⟩ : ∃ bv, S' p = bv := ⟨_, rfl⟩
                    have HBV := Lib.hid hbv
                    rw [hbv] at m0
                    clear hbv T8 bx
                    cases bv with
                    | true =>
                      go_wp2_with (refine step_store_bo (by rfl) (by rfl) (by rfl) (g := gs) (i := p) (x := true) (by rfl) (by rfl) N8 hlp ?_; intro w10 N10 hg10)
                      have hgE := grown_more hg8 hg10 (fun j e => .inr e)
                      go_roundw
                      case rel => exact ⟨p + 1, _, hlp, by go_num, hgE, N10, fun x hx h => set_t (HK1.out x hx h), fun x hx h => set_n (p := p) hx (fun h2 => HK2.out x h2 h)⟩
                      case measure => simp [intOf]; omega
                    | false =>
                      by_cases h1 : ls = 1
                      · have z1 : (ls == 1) = true := by rw [h1]; rfl
                        clear h1
                        go_wp2_with (refine step_store_bo (by rfl) (by rfl) (by rfl) (g := gs) (i := p) (x := true) (by rfl) (by rfl) N8 hlp ?_; intro w10 N10 hg10)
                        have hgE := grown_more hg8 hg10 (fun j e => .inr e)
                        go_roundw
                        case rel => exact ⟨p + 1, _, hlp, by go_num, hgE, N10, fun x hx h => set_t (HK1.out x hx h), fun x hx h => set_n (p := p) hx (fun h2 => HK2.out x h2 h)⟩
                        case measure => simp [intOf]; omega
                      · have z1 : (ls == 1) = false := by simpa using h1
                        have HL1 := Lib.hid h1
                        clear h1
                        go_wp2_with (refine step_store_bo (by rfl) (by rfl) (by rfl) (g := gs) (i := p) (x := false) (by rfl) (by rfl) N8 hlp ?_; intro w10 N10 hg10)
                        have hgE := grown_more hg8 hg10 (fun j e => .inr e)
                        go_roundw
                        case rel => exact ⟨p + 1, _, hlp, by go_num, hgE, N10, fun x hx h => set_f HBV.out (HK1.out x hx h), fun x hx h => by
                          by_cases e : x = p
                          · subst e; exact absurd (HLS.out.symm.trans h) HL1.out
                          · exact set_f HBV.out (HK2.out x (by omega) h)⟩
                        case measure => simp [intOf]; omega
                  · as_aux_lemma =>
                    have hltZ2 : ¬ (p : Int) < n := by omega
                    have B15 : Below B W4 wr := B13.grown hgw (Nat.le_trans hBW B13.size) (fun k e => by injection e with e; omega)
                    have HNEW := Lib.hid (show ∀ x, x < n → S' x = true ∨ phi P n s x + ((i + 1 : Nat) : Int) ≤ 2 * (M : Int) - 1 from fun x hx => by
                      rcases HPH.out x hx with h | h
                      · exact .inl (HK1.out x hx h)
                      · rcases HSP.out x hx with h2 | h2
                        · exact .inl (HK2.out x (by omega) h2)
                        · right; omega)
                    go_wp2
                    go_roundw
                    case rel => exact ⟨i + 1, s, S', hlt, by go_num, ⟨gl2, cl2, gx2, cx2, B15, C13.grown hgw (by intro e; injection e with e; exact hsc e), L13.grown hgw (by intro e; injection e with e; exact hls2 e.symm), N13.grown hgw (by intro e; injection e with e; exact hxs2 e.symm), hlc2, hxc2⟩, HVS.out, Ns, HNEW.out⟩
                    case measure => simp [intOf]; omega
              · as_aux_lemma =>
                have hltZ : ¬ (i : Int) < 2 * (M : Int) := by omega
                have HALL := Lib.hid (show ∀ x, x < n → S x = true from fun x hx => by
                  rcases hph x hx with h | h
                  · exact h
                  · have := phi_bd hjc hvc.v x
                    omega)
                clear hph
                go_wp2_with fail
                go_loopw [90] (fun v wq => ∃ p : Nat, p ≤ n ∧ v = .int .i64 p ∧ Below wr.heap.size wr wq) (fun v _ => n - (intOf v).toNat)
                case atStart => exact ⟨0, by omega, rfl, Below.refl _ _⟩
                case round =>
                  obtain ⟨p, hp, rfl, hbq⟩ := hrel
                  by_cases hlp : p < n
                  · as_aux_lemma =>
                    have hltZ2 : (p : Int) < n := by omega
                    have m0 := ((Ns.below hbq).at hlp).1
                    rw [HALL.out p hlp] at m0
                    go_wp2
                    go_roundw
                    case rel => exact ⟨p + 1, hlp, by go_num, hbq⟩
                    case measure => simp [intOf]; omega
                  · as_aux_lemma =>
                    have hltZ2 : ¬ (p : Int) < n := by omega
                    go_wp2
                    go_roundw
                    case rel => exact ⟨t + 1, c, htl, by go_num, hS.grow (hS.big hBW) hbq, hvc⟩
                    case measure => simp [intOf]; omega
          · as_aux_lemma =>
            have htZ : ¬ (t : Int) < 2 := by omega
            have hBr : Below B W4 wr := by obtain ⟨_, _, _, _, h, _⟩ := hS; exact h
            go_wp2_with fail
            refine (awake_any _).mono ?_
            rintro e w2 ⟨rfl, hb⟩
            go_wp2
            go_ret
            exact ⟨rfl, hb4.trans ((hBr.mono hwB).trans (hb.mono (Nat.le_trans hb4.size hBr.size)))⟩
end Go.Proofs.Ytkpbkahmbbkcdaa
