/-
  The law WorstReaches. Conditions: none.
-/
import Derived.Test.YtohgnbpaffcpaaaWb
import Derived.Test.YtohgnbpaffcpaaaVx
import Derived.Test.YtohgnbpaffcpaaaCl
import Derived.Deep.OwnRows
import Derived.BigQuiet
namespace Go.Proofs.Ytohgnbpaffcpaaa
open Go.ChangeShapes Go.WideShapes Go.RowKit
set_option linter.unusedVariables false

theorem wpList_append_run {ops : Array Oper} {rest : List Oper} {o : Oper} {a : Act} {w w' : World} {Q : Exit → Act → World → Prop} (hg : o.guard = none) {s x : Operand} {t : TypeId} {vs vx v : Value} (ho : o.op = .call { callee := .builtin .append, args := #[s, x], argTypes := #[t, t] }) (hs : a.eval s = vs) (hx : a.eval x = vx)
    (hr : (Builtin.append_ #[t, t] o.type #[vs, vx]).run Try.prog w = .ok v w') (h : wpList Try.prog ops Q rest (a.put o.dst v) w') : wpList Try.prog ops Q (o :: rest) a w :=
  wpList_plain hg fun _ hK => by
    unfold Oper.wp execOp
    simp only [ho, resolve, invoke, builtin, Sem.run_bind, Sem.run_pure, Result.andThen_ok, List.map_toArray, List.map_cons, List.map_nil, hs, hx, hr]
    exact hK _ _ h
theorem mx_bd {p : Ph} (h : PhOk p) : 1 ≤ p.mx ∧ p.mx ≤ 1000 := by
  have h1 := h.mx
  have h2 := h.mn
  omega
theorem set_bd {P : List Ph} {C : List Int} {n p : Nat} {st a b mx : Int} {c : Ct} (hj : JunC P C n st) (hv : CtV P C n st c) (hp : p < n) (ha : 0 ≤ a ∧ a < 4) (hb : 0 ≤ b ∧ b < mx + 2) (hm : 1 ≤ mx ∧ mx ≤ 1000) (q : Nat) (hq : q < n) :
    (-9223372036854775808 ≤ lmp (c.li.set p (a, b)) q ∧ lmp (c.li.set p (a, b)) q ≤ 9223372036854775807) ∧ (-9223372036854775808 ≤ tck (c.li.set p (a, b)) q ∧ tck (c.li.set p (a, b)) q ≤ 9223372036854775807) := by
  have hl := hv.li
  unfold lmp tck
  rw [prAt_set (by omega)]
  by_cases e : q = p
  · rw [if_pos e]
    show (-9223372036854775808 ≤ a ∧ a ≤ 9223372036854775807) ∧ (-9223372036854775808 ≤ b ∧ b ≤ 9223372036854775807)
    omega
  · rw [if_neg e]
    have h := LiOk.bd (hj.pok q hq) (hv.ok q hq)
    unfold lmp tck at h
    omega
/-- The variable gc holds the control c; gD is a deck. -/
def StdE (W wr : World) (B gc gD n : Nat) (c : Ct) : Prop := ∃ gl cl gx cx : Nat, Below B W wr ∧ Blk wr gc 31 #[.slice (some ⟨gl, 0, none⟩) n cl, .int .i64 (c).gr, .slice (some ⟨gx, 0, none⟩) 2 cx, .int .i64 (c).wt] ∧ LiB wr gl c.li ∧ NxB wr gx c.nx ∧ DeckOk wr gD ∧ gD < gl ∧ gD < gx
set_option maxRecDepth 40000 in
set_option maxHeartbeats 8000000 in
theorem reaches_any (A0 : Option Addr) (cA : Nat) (l : List Int) (B0 : Option Addr) (cB : Nat) (m : List Int) (tg : Int) (w : World) (hs : Ints .i64 w w.heap.size A0 l) (hn : Nums l) (hl : l.length ≤ 9223372036854775807) (hsm0 : Ints .i64 w w.heap.size B0 m) (hnm : Nums m) (hlm : m.length ≤ 9223372036854775807) (t0 : -9223372036854775808 ≤ tg) (t1 : tg ≤ 9223372036854775807) :
    Calls Try.prog 4 #[.slice A0 l.length cA, .slice B0 m.length cB, .int .i64 tg] w fun e w' => e = .returned (.bool true) ∧ Below w.heap.size w w' := by
  go_enter Try.func4, Try.ntmps4
  go_wp2_with fail
  refine (new_ok A0 l cA _ hs hn hl).mono ?_
  rintro e w2 ⟨rfl, hdk, hb2, hlt2⟩
  go_wp2_with fail
  refine (junction_any w.heap.size w2 hdk).mono ?_
  rintro e w3 ⟨hgr, hdk3, q, st, ex, P, A1, B1, cU, cW, rfl, hj, hP, hI, hA1, hB1, hcU, hdW⟩
  have hb3 := hgr.base hb2 (Nat.le_refl _)
  have hjc := junC_drawn hj
  have hjv := jun_drawn hj
  obtain ⟨n, hnn⟩ : ∃ n, P.length = n := ⟨_, rfl⟩
  obtain ⟨C, hCC⟩ : ∃ C, rowsL P ex = C := ⟨_, rfl⟩
  rw [hnn, hCC] at hjc
  rw [hCC] at hI hjv
  rw [hnn] at hcU hdW ⊢
  have HN := Lib.hid hnn
  have HRC := Lib.hid hjc.rows.len
  clear hnn hCC hgr hdk hdk3 hb2 hj hA1 hB1
  have h1 := hjc.h1
  have h8 := hjc.h8
  obtain ⟨bA, oA, rfl, hbA, _⟩ := hP (by have := HN.out; omega)
  obtain ⟨bB, oB, rfl, hbB, _⟩ := hI (by have := HRC.out; omega)
  have bJ := lat_alloc (Below.refl w3.heap.size w3) (.cells #[.slice (some ⟨bA, oA, none⟩) n cU, .slice (some ⟨bB, oB, none⟩) n cW, .int .i64 st] 25)
  have BJ := Blk.new (w := w3) (t := 25) (cs := #[.slice (some ⟨bA, oA, none⟩) n cU, .slice (some ⟨bB, oB, none⟩) n cW, .int .i64 st])
  have hI4 := hI.grow bJ
  have hP4 := hP.grow bJ
  have hb4 := hb3.trans (bJ.mono hb3.size)
  have hsm := (hsm0.below hb4).more hb4.size
  go_wp2_with fail
  have HGC := Lib.hid (heap_size w3 (.cells #[.slice (some ⟨bA, oA, none⟩) n cU, .slice (some ⟨bB, oB, none⟩) n cW, .int .i64 st] 25))
  generalize w3.alloc (.cells #[.slice (some ⟨bA, oA, none⟩) n cU, .slice (some ⟨bB, oB, none⟩) n cW, .int .i64 st] 25) = W4 at *
  generalize w3.heap.size = gj at *
  clear bJ hI hP hb3 hs hsm0
  obtain ⟨B, hBB⟩ : ∃ B, W4.heap.size = B := ⟨_, rfl⟩
  have HBB := Lib.hid hBB
  have hgjB : gj < B := by have := HGC.out; omega
  have hbAB : bA < B := by have := HGC.out; omega
  have hbBB : bB < B := by have := HGC.out; omega
  have hBW : B ≤ W4.heap.size := by omega
  have hBWle : B ≤ W4.heap.size := hBW
  have hwB : w.heap.size ≤ B := by have := hb4.size; omega
  rw [hBB] at hI4 hP4 hsm
  clear hBB
  refine (new_ok B0 m cB W4 (hsm.low (Below.refl _ _) hBW) hnm hlm).mono ?_
  rintro e w5 ⟨rfl, hdk, b5, hlt5⟩
  obtain ⟨gD, hgD⟩ : ∃ gD, W4.heap.size = gD := ⟨_, rfl⟩
  have hBD : B ≤ gD := by omega
  rw [hgD] at hdk b5 hlt5 ⊢
  have B5 : Below B W4 w5 := Below.mono b5 hBD
  have J5 := BJ.low B5 hgjB
  have j0 := J5.at 0 rfl; have j1 := J5.at 1 rfl; have j2 := J5.at 2 rfl
  go_wp2_with fail
  refine (control_any gD (some ⟨bA, oA, none⟩) (some ⟨bB, oB, none⟩) cU cW n P C st w5 hjc hdk (hP4.low B5 hBW) (hI4.low B5 hBW) (fun a ha => by injection ha with ha; subst ha; show bA ≠ gD; omega) (fun a ha => by injection ha with ha; subst ha; show bB ≠ gD; omega)).mono ?_
  rintro e w6 ⟨v, rfl, hgr6, hdk6, c0, hv0, gl, cl, gx, cx, rfl, ⟨hgl, hcl⟩, hgx, L6, N6⟩
  clear j0 j1 j2 J5
  have B6 : Below B W4 w6 := B5.grown hgr6.1 (Nat.le_trans hBW B5.size) (fun k e => by injection e with e; omega)
  have hs6 := hgr6.size
  have bX := lat_alloc (Below.refl w6.heap.size w6) (.cells #[.slice (some ⟨gl, 0, none⟩) n cl, .int .i64 (c0).gr, .slice (some ⟨gx, 0, none⟩) 2 cx, .int .i64 (c0).wt] 31)
  have C7 := Blk.new (w := w6) (t := 31) (cs := #[.slice (some ⟨gl, 0, none⟩) n cl, .int .i64 (c0).gr, .slice (some ⟨gx, 0, none⟩) 2 cx, .int .i64 (c0).wt])
  have L7 := L6.below bX
  have N7 := N6.below bX
  have D7 := hdk6.below bX
  have B7 := B6.trans (bX.mono (Nat.le_trans hBW B6.size))
  have J7 := BJ.low B7 hgjB
  have j0 := J7.at 0 rfl
  go_wp2_with fail
  clear j0 J7
  generalize w6.alloc (.cells #[.slice (some ⟨gl, 0, none⟩) n cl, .int .i64 (c0).gr, .slice (some ⟨gx, 0, none⟩) 2 cx, .int .i64 (c0).wt] 31) = W7 at *
  obtain ⟨gc, hgc⟩ : ∃ gc, w6.heap.size = gc := ⟨_, rfl⟩
  rw [hgc] at C7 ⊢
  have hBgc : B ≤ gc := by omega
  have hDc : gD < gc := by omega
  have S7 : StdE W4 W7 B gc gD n c0 := ⟨gl, cl, gx, cx, B7, C7, L7, N7, D7, by omega, by omega⟩
  clear hgc hgD C7 L7 N7 D7 B7 L6 N6 B6 B5 hgl hgx hcl hgr6 hdk6 hdk bX hs6 hlt5 b5 hsm
  go_loopw [25] (fun v wr => ∃ (p : Nat) (c : Ct), p ≤ n ∧ v = .int .i64 p ∧ StdE W4 wr B gc gD n c ∧ CtV P C n st c) (fun v _ => n - (intOf v).toNat)
  case atStart => exact ⟨0, c0, Nat.zero_le _, rfl, S7, hv0⟩
  case round =>
    obtain ⟨p, c, hp, rfl, ⟨gl, cl, gx, cx, Br, Cr, Lr, Nr, Dr, hDl, hDx⟩, hvc⟩ := hrel
    clear S7 hv0
    have hBr : B ≤ wr.heap.size := Nat.le_trans hBW Br.size
    have HVC := Lib.hid hvc
    have HLC := Lib.hid hvc.li
    by_cases hlp : p < n
    · as_aux_lemma =>
      have hltZ : (p : Int) < n := by omega
      obtain ⟨bA', oA', hA', hbA', hph⟩ := hP4.low Br hBW (by have := HN.out; omega)
      injection Option.some.inj hA' with hA2 hA3 _
      subst hA2; subst hA3
      have hXp := hph p (by have := HN.out; omega)
      have hpx := hjc.pok p hlp
      obtain ⟨xp, hxp⟩ : ∃ xp, phAt P p = xp := ⟨_, rfl⟩
      rw [hxp] at hXp hpx
      have hmx := mx_bd hpx
      obtain ⟨x0, x1, x2, x3, x4, x5, x6, x7⟩ := hXp
      clear hph hA' hbA' hxp hpx hvc
      have bx1 := lat_alloc (Below.refl wr.heap.size wr) (.cells #[.int .i64 xp.ri, .int .i64 xp.gr, .int .i64 xp.mn, .int .i64 xp.mx, .int .i64 xp.yl, .int .i64 xp.rd, .int .i64 xp.wk, .int .i64 xp.cl] 39)
      have P1 := Blk.new (w := wr) (t := 39) (cs := #[.int .i64 xp.ri, .int .i64 xp.gr, .int .i64 xp.mn, .int .i64 xp.mx, .int .i64 xp.yl, .int .i64 xp.rd, .int .i64 xp.wk, .int .i64 xp.cl])
      have C6 := Cr.below bx1
      have a0 := C6.at 0 rfl; have a1 := C6.at 1 rfl; have a2 := C6.at 2 rfl; have a3 := C6.at 3 rfl
      have X7 := Blk.new (w := wr.alloc (.cells #[.int .i64 xp.ri, .int .i64 xp.gr, .int .i64 xp.mn, .int .i64 xp.mx, .int .i64 xp.yl, .int .i64 xp.rd, .int .i64 xp.wk, .int .i64 xp.cl] 39)) (t := 31) (cs := #[.slice (some ⟨gl, 0, none⟩) n cl, .int .i64 (c).gr, .slice (some ⟨gx, 0, none⟩) 2 cx, .int .i64 (c).wt])
      have bx2 := lat_alloc (Below.refl (wr.alloc (.cells #[.int .i64 xp.ri, .int .i64 xp.gr, .int .i64 xp.mn, .int .i64 xp.mx, .int .i64 xp.yl, .int .i64 xp.rd, .int .i64 xp.wk, .int .i64 xp.cl] 39)).heap.size (wr.alloc (.cells #[.int .i64 xp.ri, .int .i64 xp.gr, .int .i64 xp.mn, .int .i64 xp.mx, .int .i64 xp.yl, .int .i64 xp.rd, .int .i64 xp.wk, .int .i64 xp.cl] 39))) (.cells #[.slice (some ⟨gl, 0, none⟩) n cl, .int .i64 (c).gr, .slice (some ⟨gx, 0, none⟩) 2 cx, .int .i64 (c).wt] 31)
      have b7 := bx1.trans (bx2.mono bx1.size)
      have C7 := Cr.below b7
      have L7 := Lr.below b7
      have N7 := Nr.below b7
      have D7 := Dr.below b7
      have P7 := P1.below bx2
      have B7 := Br.trans (b7.mono hBr)
      rw [heap_size] at X7
      have b0 := C7.at 0 rfl
      have hgcs := Cr.lt
      have hgls := Lr.lt
      have hgxs := Nr.lt
      obtain ⟨gq, cap, w8, hrun, L8, b8, hgq, hcap⟩ := copy_li 29 L7.prs HLC.out h1 (by omega)
      have X8 := X7.below b8
      have hs7 := b7.size
      have hX7l := X7.lt
      go_wp2_with (first | (refine wpList_append_run rfl rfl rfl rfl hrun ?_) | (refine step_store_ll (by rfl) (by rfl) (by rfl) (by rfl) (by rfl) X8 (by rfl) ?_; intro w9 X9 hg9))
      clear x0 x1 x2 x3 x4 x5 x6 x7 a0 a1 a2 a3 b0
      have X9 : Blk w9 (wr.heap.size + 1) 31 #[.slice (some ⟨gq, 0, none⟩) n cap, .int .i64 (c).gr, .slice (some ⟨gx, 0, none⟩) 2 cx, .int .i64 (c).wt] := X9
      have C9 := (C7.below b8).grown hg9 (by intro e; injection e with e; omega)
      have L9 := L8.grown hg9 (by intro e; injection e with e; omega)
      have M9 := (L7.below b8).grown hg9 (by intro e; injection e with e; omega)
      have N9 := (N7.below b8).grown hg9 (by intro e; injection e with e; omega)
      have HDK := Lib.hid ((D7.below b8).grown hg9 (fun k e => by injection e with e; omega))
      have B9 := (P7.below b8).grown hg9 (by intro e; injection e with e; omega)
      have B9' : Below B W4 w9 := (B7.trans (b8.mono (Nat.le_trans hBW B7.size))).grown hg9 (Nat.le_trans hBW (B7.trans (b8.mono (Nat.le_trans hBW B7.size))).size) (fun k e => by injection e with e; omega)
      have hDq : gD < gq := by omega
      have hqx : gq ≠ gx := by omega
      have hql : gq ≠ gl := by omega
      clear X7 X8 C6 C7 L7 N7 D7 P1 P7 L8 bx1 bx2 b7 b8 hg9 hrun Cr Lr Nr Dr Br B7
      obtain ⟨g11, hg11⟩ : ∃ g11, wr.heap.size = g11 := ⟨_, rfl⟩
      obtain ⟨g12, hg12⟩ : ∃ g12, wr.heap.size + 1 = g12 := ⟨_, rfl⟩
      rw [hg12] at X9 ⊢
      rw [hg11] at B9 ⊢
      have hne12 : g12 ≠ gD := by omega
      have hne11 : g11 ≠ gD := by omega
      have hneC : gc ≠ gD := by omega
      have hq12 : gq ≠ g12 := by omega
      obtain ⟨mx, hmxe⟩ : ∃ mx, xp.mx = mx := ⟨_, rfl⟩
      rw [hmxe] at B9 hmx
      clear hg11 hg12 hmxe hs7 hX7l hgls hgxs hgcs hgq
      refine wp_region_pre (R := (Gr gD)) 12 71 [fun v _ => v = .pointer (some ⟨g12, 0, none⟩), fun v _ => v = .slice (some ⟨gq, 0, none⟩) n cap, fun v _ => v = .int .i64 (p : Nat), fun v _ => v = .pointer (some ⟨gD, 0, none⟩), fun v w => ∃ y : Int, v = .int .i64 y ∧ 0 ≤ y ∧ y < 4, fun v _ => v = .pointer (some ⟨gD, 0, none⟩), fun v _ => v = .pointer (some ⟨g11, 3, none⟩), fun v _ => v = .int .i64 mx, fun v _ => v = .int .i64 (mx + 2), fun v w => ∃ y : Int, v = .int .i64 y ∧ 0 ≤ y ∧ y < mx + 2, fun v w => ∃ y z : Int, v = .agg #[.int .i64 y, .int .i64 z] ∧ (0 ≤ y ∧ y < 4) ∧ 0 ≤ z ∧ z < mx + 2, fun v _ => v = .pointer (some ⟨gq, p * 2, none⟩)] (Gr.trans) (Gr.drew) (by kernel_rfl) (fun _ _ d _ _ h => by cases d <;> exact h) rfl (by kernel_rfl) (stay_cons (stays_v _) (stay_cons (stays_v _) (stay_cons (stays_v _) (stay_cons (stays_v _) (stay_cons (fun v w w1 h hb => h) (stay_cons (stays_v _) (stay_cons (stays_v _) (stay_cons (stays_v _) (stay_cons (stays_v _) (stay_cons (fun v w w1 h hb => h) (stay_cons (fun v w w1 h hb => h) (stay_cons (stays_v _) (stay_nil))))))))))))) ?_ ?_
      · simp only [List.take_succ_cons, List.take_zero]
        refine steps_cons (Gr.refl) (fun ev xw hb hc hf hfr hd hr => ?_) ?_
        · have e12 : ev (.tmp 12) = .pointer (some ⟨g12, 0, none⟩) := hfr 12 (by kernel_rfl)
          clear hfr hd
          show OpOk _ _ ev xw fun v w' => (Gr gD) xw w' ∧ (v = .pointer (some ⟨g12, 0, none⟩))
          refine opOk_hid (fun Rp HR => ?_)
          unfold OpOk
          go_simp
          rw [HR.out]
          exact ⟨hr, rfl⟩
        refine steps_cons (Gr.refl) (fun ev xw hb hc hf hfr hd hr => ?_) ?_
        · have e35 : ev (.tmp 35) = .pointer (some ⟨g12, 0, none⟩) := hd 0 35 (by kernel_rfl)
          clear hfr hd
          have k0 := (hb.blk X9 hne12).at 0 rfl
          show OpOk _ _ ev xw fun v w' => (Gr gD) xw w' ∧ (v = .slice (some ⟨gq, 0, none⟩) n cap)
          refine opOk_hid (fun Rp HR => ?_)
          unfold OpOk
          go_simp
          rw [HR.out]
          exact ⟨hr, rfl⟩
        refine steps_cons (Gr.refl) (fun ev xw hb hc hf hfr hd hr => ?_) ?_
        · have e10 : ev (.tmp 10) = .int .i64 (p : Nat) := hfr 10 (by kernel_rfl)
          clear hfr hd
          show OpOk _ _ ev xw fun v w' => (Gr gD) xw w' ∧ (v = .int .i64 (p : Nat))
          refine opOk_hid (fun Rp HR => ?_)
          unfold OpOk
          go_simp
          rw [HR.out]
          exact ⟨hr, rfl⟩
        refine steps_cons (Gr.refl) (fun ev xw hb hc hf hfr hd hr => ?_) ?_
        · have e8 : ev (.tmp 8) = .pointer (some ⟨gD, 0, none⟩) := hfr 8 (by kernel_rfl)
          clear hfr hd
          show OpOk _ _ ev xw fun v w' => (Gr gD) xw w' ∧ (v = .pointer (some ⟨gD, 0, none⟩))
          refine opOk_hid (fun Rp HR => ?_)
          unfold OpOk
          go_simp
          rw [HR.out]
          exact ⟨hr, rfl⟩
        refine steps_cons (Gr.refl) (fun ev xw hb hc hf hfr hd hr => ?_) ?_
        · have e38 : ev (.tmp 38) = .pointer (some ⟨gD, 0, none⟩) := hd 3 38 (by kernel_rfl)
          clear hfr hd
          show OpOk _ _ ev xw fun v w' => (Gr gD) xw w' ∧ (∃ y : Int, v = .int .i64 y ∧ 0 ≤ y ∧ y < 4)
          refine opOk_hid (fun Rp HR => ?_)
          unfold OpOk
          go_simp
          refine (next_ok gD 4 xw (hb.2 HDK.out) (by omega) (by omega)).mono ?_
          rintro e w'' ⟨q1, q2, x, q3, q4, rfl⟩
          refine ⟨_, rfl, ?_⟩
          rw [HR.out]
          exact ⟨q1, x, rfl, q3, q4⟩
        refine steps_cons (Gr.refl) (fun ev xw hb hc hf hfr hd hr => ?_) ?_
        · have e8 : ev (.tmp 8) = .pointer (some ⟨gD, 0, none⟩) := hfr 8 (by kernel_rfl)
          clear hfr hd
          show OpOk _ _ ev xw fun v w' => (Gr gD) xw w' ∧ (v = .pointer (some ⟨gD, 0, none⟩))
          refine opOk_hid (fun Rp HR => ?_)
          unfold OpOk
          go_simp
          rw [HR.out]
          exact ⟨hr, rfl⟩
        refine steps_cons (Gr.refl) (fun ev xw hb hc hf hfr hd hr => ?_) ?_
        · have e11 : ev (.tmp 11) = .pointer (some ⟨g11, 0, none⟩) := hfr 11 (by kernel_rfl)
          clear hfr hd
          show OpOk _ _ ev xw fun v w' => (Gr gD) xw w' ∧ (v = .pointer (some ⟨g11, 3, none⟩))
          refine opOk_hid (fun Rp HR => ?_)
          unfold OpOk
          go_simp
          rw [HR.out]
          exact ⟨hr, rfl⟩
        refine steps_cons (Gr.refl) (fun ev xw hb hc hf hfr hd hr => ?_) ?_
        · have e41 : ev (.tmp 41) = .pointer (some ⟨g11, 3, none⟩) := hd 6 41 (by kernel_rfl)
          clear hfr hd
          have k3 := (hb.blk B9 hne11).at 3 rfl
          show OpOk _ _ ev xw fun v w' => (Gr gD) xw w' ∧ (v = .int .i64 mx)
          refine opOk_hid (fun Rp HR => ?_)
          unfold OpOk
          go_simp
          rw [HR.out]
          exact ⟨hr, rfl⟩
        refine steps_cons (Gr.refl) (fun ev xw hb hc hf hfr hd hr => ?_) ?_
        · have e42 : ev (.tmp 42) = .int .i64 mx := hd 7 42 (by kernel_rfl)
          clear hfr hd
          have zw : IntKind.i64.wrap (mx + 2) = mx + 2 := by rw [IntKind.wrap_i64]; omega
          show OpOk _ _ ev xw fun v w' => (Gr gD) xw w' ∧ (v = .int .i64 (mx + 2))
          refine opOk_hid (fun Rp HR => ?_)
          unfold OpOk
          go_simp
          rw [HR.out]
          exact ⟨hr, rfl⟩
        refine steps_cons (Gr.refl) (fun ev xw hb hc hf hfr hd hr => ?_) ?_
        · have e40 : ev (.tmp 40) = .pointer (some ⟨gD, 0, none⟩) := hd 5 40 (by kernel_rfl)
          have e43 : ev (.tmp 43) = .int .i64 (mx + 2) := hd 8 43 (by kernel_rfl)
          clear hfr hd
          show OpOk _ _ ev xw fun v w' => (Gr gD) xw w' ∧ (∃ y : Int, v = .int .i64 y ∧ 0 ≤ y ∧ y < mx + 2)
          refine opOk_hid (fun Rp HR => ?_)
          unfold OpOk
          go_simp
          refine (next_ok gD (mx + 2) xw (hb.2 HDK.out) (by omega) (by omega)).mono ?_
          rintro e w'' ⟨q1, q2, x, q3, q4, rfl⟩
          refine ⟨_, rfl, ?_⟩
          rw [HR.out]
          exact ⟨q1, x, rfl, q3, q4⟩
        refine steps_cons (Gr.refl) (fun ev xw hb hc hf hfr hd hr => ?_) ?_
        · obtain ⟨y39, e39, p39, q39⟩ : ∃ y : Int, ev (.tmp 39) = .int .i64 y ∧ 0 ≤ y ∧ y < 4 := hd 4 39 (by kernel_rfl)
          obtain ⟨y44, e44, p44, q44⟩ : ∃ y : Int, ev (.tmp 44) = .int .i64 y ∧ 0 ≤ y ∧ y < mx + 2 := hd 9 44 (by kernel_rfl)
          clear hfr hd
          show OpOk _ _ ev xw fun v w' => (Gr gD) xw w' ∧ (∃ y z : Int, v = .agg #[.int .i64 y, .int .i64 z] ∧ (0 ≤ y ∧ y < 4) ∧ 0 ≤ z ∧ z < mx + 2)
          refine opOk_hid (fun Rp HR => ?_)
          unfold OpOk
          go_simp
          rw [HR.out]
          exact ⟨hr, y39, y44, rfl, ⟨p39, q39⟩, p44, q44⟩
        refine steps_cons (Gr.refl) (fun ev xw hb hc hf hfr hd hr => ?_) ?_
        · have e36 : ev (.tmp 36) = .slice (some ⟨gq, 0, none⟩) n cap := hd 1 36 (by kernel_rfl)
          have e37 : ev (.tmp 37) = .int .i64 (p : Nat) := hd 2 37 (by kernel_rfl)
          clear hfr hd
          show OpOk _ _ ev xw fun v w' => (Gr gD) xw w' ∧ (v = .pointer (some ⟨gq, p * 2, none⟩))
          refine opOk_hid (fun Rp HR => ?_)
          unfold OpOk
          go_simp
          rw [HR.out]
          exact ⟨hr, rfl⟩
        exact steps_nil
      · intro vs W11 hb11 hk
        obtain ⟨a, b, k10, hab, hbb⟩ : ∃ y z : Int, vs 10 = .agg #[.int .i64 y, .int .i64 z] ∧ (0 ≤ y ∧ y < 4) ∧ 0 ≤ z ∧ z < mx + 2 := hk 10 (by omega)
        have k11 : vs 11 = .pointer (some ⟨gq, p * 2, none⟩) := hk 11 (by omega)
        clear hk
        simp only [List.take_succ_cons, List.take_zero, List.drop_succ_cons, List.drop_zero, putAll, Act.put, List.setIfInBounds_toArray, List.set_cons_zero, List.set_cons_succ, k10, k11, Nat.reduceAdd]
        have X11 := hb11.blk X9 hne12
        have C11 := hb11.blk C9 hneC
        have L11 := L9.grown hb11.1 (by intro e; injection e with e; omega)
        have M11 := M9.grown hb11.1 (by intro e; injection e with e; omega)
        have N11 := N9.grown hb11.1 (by intro e; injection e with e; omega)
        have D11 := hb11.2 HDK.out
        have B11 : Below B W4 W11 := B9'.grown hb11.1 (Nat.le_trans hBW B9'.size) (fun k e => by injection e with e; omega)
        clear X9 C9 L9 M9 N9 B9 B9' hb11 HDK k10 k11
        have hqX := L11.ne_ct X11
        have hqC := L11.ne_ct C11
        unfold wpList
        refine step_store_li (by rfl) (by rfl) (by rfl) (g := gq) (i := p) (by rfl) (by rfl) L11 (by rw [HLC.out]; exact hlp) ?_
        intro w12 L12 hg12
        have X12 := X11.grown hg12 (by intro e; injection e with e; exact hqX e)
        have C12 := C11.grown hg12 (by intro e; injection e with e; exact hqC e)
        have M12 := M11.grown hg12 (by intro e; injection e with e; omega)
        have N12 := N11.grown hg12 (by intro e; injection e with e; exact hqx e)
        have D12 := D11.grown hg12 (fun k e => by injection e with e; omega)
        have B12 : Below B W4 w12 := B11.grown hg12 (Nat.le_trans hBW B11.size) (fun k e => by injection e with e; omega)
        have J12 := BJ.low B12 hgjB
        clear X11 C11 L11 M11 N11 D11 B11 hg12 hqX hqC
        have j0 := J12.at 0 rfl; have j1 := J12.at 1 rfl; have j2 := J12.at 2 rfl
        have x0 := X12.at 0 rfl; have x1 := X12.at 1 rfl; have x2 := X12.at 2 rfl; have x3 := X12.at 3 rfl
        unfold wpList
        go_wp2_with fail
        refine (rvalid_x (some ⟨bA, oA, none⟩) (some ⟨bB, oB, none⟩) (some ⟨gq, 0, none⟩) (some ⟨gx, 0, none⟩) cU cW cap cx n P C ⟨c.li.set p (a, b), c.gr, c.nx, c.wt⟩ st w12 hjc (by rw [List.length_set]; exact HLC.out) HVC.out.nx HVC.out.gr HVC.out.wt HVC.out.nxt (set_bd hjc HVC.out hlp hab hbb hmx) (hP4.low B12 hBW) (hI4.low B12 hBW) L12.prs N12.ints).mono ?_
        rintro e w13 ⟨r, rfl, b13, hr⟩
        have HRR := Lib.hid hr
        clear j0 j1 j2 x0 x1 x2 x3 hr J12
        have X13 := X12.below b13
        have C13 := C12.below b13
        have L13 := L12.below b13
        have M13 := M12.below b13
        have N13 := N12.below b13
        have D13 := D12.below b13
        have B13 := B12.trans (b13.mono (Nat.le_trans hBW B12.size))
        clear X12 C12 L12 M12 N12 D12 B12 b13
        cases r with
        | true =>
          have x0 := X13.at 0 rfl; have x1 := X13.at 1 rfl; have x2 := X13.at 2 rfl; have x3 := X13.at 3 rfl
          go_wp2_with (refine step_store_ct (by rfl) (by rfl) (by rfl) (by rfl) (by rfl) C13 ?_; intro w14 C14 hg14)
          have hqC := L13.ne_ct C13
          have hxC := N13.ne_ct C13
          go_roundw
          case rel => exact ⟨p + 1, ⟨c.li.set p (a, b), c.gr, c.nx, c.wt⟩, hlp, by go_num, ⟨gq, cap, gx, cx, B13.grown hg14 (Nat.le_trans hBW B13.size) (fun k e => by injection e with e; omega), C14, L13.grown hg14 (by intro e; injection e with e; exact hqC e.symm), N13.grown hg14 (by intro e; injection e with e; exact hxC e.symm), D13.grown hg14 (fun k e => by injection e with e; omega), hDq, hDx⟩, HRR.out (by first | rfl | trivial)⟩
          case measure => simp [intOf]; omega
        | false =>
          go_wp2_with fail
          go_roundw
          case rel => exact ⟨p + 1, c, hlp, by go_num, ⟨gl, cl, gx, cx, B13, C13, M13, N13, D13, hDl, hDx⟩, HVC.out⟩
          case measure => simp [intOf]; omega
    · as_aux_lemma =>
      have hltZ : ¬ (p : Int) < n := by omega
      have Jr := BJ.low Br hgjB
      obtain ⟨T, hT, hTn⟩ := modI_nat' tg (n : Int) (by omega)
      have HT := Lib.hid (fun xw => mod_b (a := tg) (m := (n : Int)) (k := T) hT (by omega) (by omega) (by omega) (by omega) xw)
      have hrb := reach_bd hjc hjv hvc (show T < n by omega)
      obtain ⟨R, hR⟩ : ∃ R, reachV P C n st c T = R := ⟨_, rfl⟩
      obtain ⟨M, hM⟩ : ∃ M, transV P n st = M := ⟨_, rfl⟩
      rw [hR, hM] at hrb
      have HRB := Lib.hid hrb
      have HMM := Lib.hid hM
      have HRE := Lib.hid (show reachT P C n st c T = R by unfold reachT; rw [if_pos (by omega), Int.toNat_natCast]; exact hR)
      clear hT hrb hR hM hvc
      go_wp2_with fail
      refine wp_region_pre (R := Bl) 8 71 [fun v _ => v = .agg #[.slice (some ⟨bA, oA, none⟩) n cU, .slice (some ⟨bB, oB, none⟩) n cW, .int .i64 st], fun v _ => v = .agg #[.slice (some ⟨gl, 0, none⟩) n cl, .int .i64 (c).gr, .slice (some ⟨gx, 0, none⟩) 2 cx, .int .i64 (c).wt], fun v _ => v = .int .i64 tg, fun v _ => v = .pointer (some ⟨gj, 0, none⟩), fun v _ => v = .slice (some ⟨bA, oA, none⟩) n cU, fun v _ => v = .int .i64 n, fun v _ => v = .int .i64 (T : Nat), fun v _ => v = .int .i64 R] (Bl.trans) (Bl.drew) (by kernel_rfl) (fun _ _ d _ _ h => by cases d <;> exact h) rfl (by kernel_rfl) (stay_cons (stays_v _) (stay_cons (stays_v _) (stay_cons (stays_v _) (stay_cons (stays_v _) (stay_cons (stays_v _) (stay_cons (stays_v _) (stay_cons (stays_v _) (stay_cons (stays_v _) (stay_nil))))))))) ?_ ?_
      · simp only [List.take_succ_cons, List.take_zero]
        refine steps_cons (Bl.refl) (fun ev xw hb hc hf hfr hd hr => ?_) ?_
        · have e7 : ev (.tmp 7) = .pointer (some ⟨gj, 0, none⟩) := hfr 7 (by kernel_rfl)
          clear hfr hd
          have k0 := (Jr.below hb).at 0 rfl
          have k1 := (Jr.below hb).at 1 rfl
          have k2 := (Jr.below hb).at 2 rfl
          show OpOk _ _ ev xw fun v w' => Bl xw w' ∧ (v = .agg #[.slice (some ⟨bA, oA, none⟩) n cU, .slice (some ⟨bB, oB, none⟩) n cW, .int .i64 st])
          refine opOk_hid (fun Rp HR => ?_)
          unfold OpOk
          go_simp
          rw [HR.out]
          exact ⟨hr, rfl⟩
        refine steps_cons (Bl.refl) (fun ev xw hb hc hf hfr hd hr => ?_) ?_
        · have e9 : ev (.tmp 9) = .pointer (some ⟨gc, 0, none⟩) := hfr 9 (by kernel_rfl)
          clear hfr hd
          have k0 := (Cr.below hb).at 0 rfl
          have k1 := (Cr.below hb).at 1 rfl
          have k2 := (Cr.below hb).at 2 rfl
          have k3 := (Cr.below hb).at 3 rfl
          show OpOk _ _ ev xw fun v w' => Bl xw w' ∧ (v = .agg #[.slice (some ⟨gl, 0, none⟩) n cl, .int .i64 (c).gr, .slice (some ⟨gx, 0, none⟩) 2 cx, .int .i64 (c).wt])
          refine opOk_hid (fun Rp HR => ?_)
          unfold OpOk
          go_simp
          rw [HR.out]
          exact ⟨hr, rfl⟩
        refine steps_cons (Bl.refl) (fun ev xw hb hc hf hfr hd hr => ?_) ?_
        · have e2 : ev (.tmp 2) = .int .i64 tg := hfr 2 (by kernel_rfl)
          clear hfr hd
          show OpOk _ _ ev xw fun v w' => Bl xw w' ∧ (v = .int .i64 tg)
          refine opOk_hid (fun Rp HR => ?_)
          unfold OpOk
          go_simp
          rw [HR.out]
          exact ⟨hr, rfl⟩
        refine steps_cons (Bl.refl) (fun ev xw hb hc hf hfr hd hr => ?_) ?_
        · have e7 : ev (.tmp 7) = .pointer (some ⟨gj, 0, none⟩) := hfr 7 (by kernel_rfl)
          clear hfr hd
          show OpOk _ _ ev xw fun v w' => Bl xw w' ∧ (v = .pointer (some ⟨gj, 0, none⟩))
          refine opOk_hid (fun Rp HR => ?_)
          unfold OpOk
          go_simp
          rw [HR.out]
          exact ⟨hr, rfl⟩
        refine steps_cons (Bl.refl) (fun ev xw hb hc hf hfr hd hr => ?_) ?_
        · have e55 : ev (.tmp 55) = .pointer (some ⟨gj, 0, none⟩) := hd 3 55 (by kernel_rfl)
          clear hfr hd
          have k0 := (Jr.below hb).at 0 rfl
          show OpOk _ _ ev xw fun v w' => Bl xw w' ∧ (v = .slice (some ⟨bA, oA, none⟩) n cU)
          refine opOk_hid (fun Rp HR => ?_)
          unfold OpOk
          go_simp
          rw [HR.out]
          exact ⟨hr, rfl⟩
        refine steps_cons (Bl.refl) (fun ev xw hb hc hf hfr hd hr => ?_) ?_
        · have e56 : ev (.tmp 56) = .slice (some ⟨bA, oA, none⟩) n cU := hd 4 56 (by kernel_rfl)
          clear hfr hd
          show OpOk _ _ ev xw fun v w' => Bl xw w' ∧ (v = .int .i64 n)
          refine opOk_hid (fun Rp HR => ?_)
          unfold OpOk
          go_simp
          rw [HR.out]
          exact ⟨hr, rfl⟩
        refine steps_cons (Bl.refl) (fun ev xw hb hc hf hfr hd hr => ?_) ?_
        · have e54 : ev (.tmp 54) = .int .i64 tg := hd 2 54 (by kernel_rfl)
          have e57 : ev (.tmp 57) = .int .i64 n := hd 5 57 (by kernel_rfl)
          clear hfr hd
          show OpOk _ _ ev xw fun v w' => Bl xw w' ∧ (v = .int .i64 (T : Nat))
          refine opOk_hid (fun Rp HR => ?_)
          unfold OpOk
          go_simp
          refine (HT.out xw).mono ?_
          rintro e w'' ⟨rfl, hw⟩
          refine ⟨_, rfl, ?_⟩
          rw [HR.out]
          exact ⟨hw, rfl⟩
        refine steps_cons (Bl.refl) (fun ev xw hb hc hf hfr hd hr => ?_) ?_
        · have e52 : ev (.tmp 52) = .agg #[.slice (some ⟨bA, oA, none⟩) n cU, .slice (some ⟨bB, oB, none⟩) n cW, .int .i64 st] := hd 0 52 (by kernel_rfl)
          have e53 : ev (.tmp 53) = .agg #[.slice (some ⟨gl, 0, none⟩) n cl, .int .i64 (c).gr, .slice (some ⟨gx, 0, none⟩) 2 cx, .int .i64 (c).wt] := hd 1 53 (by kernel_rfl)
          have e58 : ev (.tmp 58) = .int .i64 (T : Nat) := hd 6 58 (by kernel_rfl)
          clear hfr hd
          show OpOk _ _ ev xw fun v w' => Bl xw w' ∧ (v = .int .i64 R)
          refine opOk_hid (fun Rp HR => ?_)
          unfold OpOk
          go_simp
          refine (preach_any (some ⟨bA, oA, none⟩) (some ⟨bB, oB, none⟩) cU cW cl cx gl gx n P C c st (T : Int) xw hjc hjv HVC.out (hP4.low (Br.trans (Below.mono hb hBr)) hBW) (hI4.low (Br.trans (Below.mono hb hBr)) hBW) hcU (Lr.below hb) (Nr.below hb)).mono ?_
          rintro e w'' ⟨rfl, hw⟩
          refine ⟨_, rfl, ?_⟩
          rw [HR.out]
          exact ⟨hw, by rw [HRE.out]⟩
        exact steps_nil
      · intro vs W11 hb11 hk
        have k7 : vs 7 = .int .i64 R := hk 7 (by omega)
        clear hk
        simp only [List.take_succ_cons, List.take_zero, List.drop_succ_cons, List.drop_zero, putAll, Act.put, List.setIfInBounds_toArray, List.set_cons_zero, List.set_cons_succ, k7, Nat.reduceAdd]
        have B11 := Br.trans (Below.mono hb11 hBr)
        have J11 := BJ.low B11 hgjB
        have j0 := J11.at 0 rfl; have j1 := J11.at 1 rfl; have j2 := J11.at 2 rfl
        have zR : decide (0 ≤ R) = true := decide_eq_true HRB.out.1
        have zR2 : decide (R ≤ M) = true := decide_eq_true HRB.out.2
        go_wp2_with fail
        refine (ptrans_any (some ⟨bA, oA, none⟩) (some ⟨bB, oB, none⟩) cU cW n n P st W11 HN.out (hP4.low B11 hBW) hjc.pok hjc.st (by omega)).mono ?_
        rintro e w12 ⟨rfl, b12⟩
        rw [HMM.out]
        clear j0 j1 j2 J11
        have B12 := B11.trans (b12.mono (Nat.le_trans hBW B11.size))
        go_wp2_with fail
        refine (awake_any _).mono ?_
        rintro e w13 ⟨rfl, b13⟩
        go_wp2
        go_ret
        exact ⟨rfl, hb4.trans ((B12.trans (b13.mono (Nat.le_trans hBW B12.size))).mono hwB)⟩
end Go.Proofs.Ytohgnbpaffcpaaa
