/-
  The program's copy of a control. Conditions: lights, and two next phases.
-/
import Derived.Test.YtkpbkahmbbkcdaaBp
import Derived.Lib.SliceRun
import Derived.Maps.AppendAt
namespace Go.Proofs.Ytkpbkahmbbkcdaa
open Go.ChangeShapes Go.WideShapes Go.RowKit
set_option linter.unusedVariables false

theorem step_store_sl {ops : Array Oper} {o : Oper} {a : Act} {w : World} {rest : List Oper} {Q : Exit → Act → World → Prop} (hgd : o.guard = none) {p v : Operand} (ho : o.op = .store 23 p v) (hd : o.dst = none) {b i : Nat} {A : Option Addr} {n m : Nat} {T : TypeId} {cs : Array Value} {u : Value} (hp : a.eval p = .pointer (some ⟨b, i, none⟩)) (hv : a.eval v = .slice A n m) (hB : Blk w b T cs) (hi : cs[i]? = some u)
    (h : ∀ w' : World, Blk w' b T (cs.setIfInBounds i (.slice A n m)) → w.grownBy w' (some b) → wpList Try.prog ops Q rest a w') :
    wpList Try.prog ops Q (o :: rest) a w := by
  unfold wpList
  have hw : Region.wanted o (yielded ops a.tmps) = true := by unfold Region.wanted; rw [hgd]
  rw [if_pos hw]
  refine .inl ?_
  have c0 := hB.at i hi
  have f0 := hB.frozen i
  have hk := h _ (hB.set_ i (.slice A n m)) (grownBy_set w b i _)
  unfold Oper.wp
  simp only [execOp, ho, hp, hv]
  go_simp
  all_goals (first | exact hk | (simp [Act.put, hd]; exact hk))
theorem step_store_ll {ops : Array Oper} {o : Oper} {a : Act} {w : World} {rest : List Oper} {Q : Exit → Act → World → Prop} (hgd : o.guard = none) {p v : Operand} (ho : o.op = .store 22 p v) (hd : o.dst = none) {b i : Nat} {A : Option Addr} {n m : Nat} {T : TypeId} {cs : Array Value} {u : Value} (hp : a.eval p = .pointer (some ⟨b, i, none⟩)) (hv : a.eval v = .slice A n m) (hB : Blk w b T cs) (hi : cs[i]? = some u)
    (h : ∀ w' : World, Blk w' b T (cs.setIfInBounds i (.slice A n m)) → w.grownBy w' (some b) → wpList Try.prog ops Q rest a w') :
    wpList Try.prog ops Q (o :: rest) a w := by
  unfold wpList
  have hw : Region.wanted o (yielded ops a.tmps) = true := by unfold Region.wanted; rw [hgd]
  rw [if_pos hw]
  refine .inl ?_
  have c0 := hB.at i hi
  have f0 := hB.frozen i
  have hk := h _ (hB.set_ i (.slice A n m)) (grownBy_set w b i _)
  unfold Oper.wp
  simp only [execOp, ho, hp, hv]
  go_simp
  all_goals (first | exact hk | (simp [Act.put, hd]; exact hk))
theorem row_empty {w : World} {base : Nat} {e : TypeId} {size : Nat} (hb : base ≤ w.heap.size) : (w.alloc (.cells #[] e)).ownsRow base e size (.slice (some ⟨w.heap.size, 0, none⟩) 0 0) 0 [] := by
  refine ⟨by simp, .inr ⟨w.heap.size, 0, #[], rfl, hb, heap_new w _, Nat.le_refl _, by unfold maxLen; omega, by simp, by simp⟩⟩
theorem clone_nx (A : Option Addr) (n c : Nat) (E : List Int) (w : World) (hn : E.length = n) (hI : Ints .i64 w w.heap.size A E) (hp : 0 < n) (hl : n ≤ 1000) :
    Calls Try.prog 70 #[.slice A n c] w fun e w' => ∃ g cx : Nat, e = .returned (.slice (some ⟨g, 0, none⟩) n cx) ∧ Below w.heap.size w w' ∧ w.heap.size ≤ g ∧ NxB w' g E := by
  obtain ⟨b, off, rfl, hB, hc⟩ := hI (by omega)
  have own0 := own_new (k := .i64) (e := 3) (w := w) (base := w.heap.size) #[] [] rfl (Nat.le_refl _) (by simp)
  have bX := lat_alloc (Below.refl w.heap.size w) (.cells #[] 3)
  have hI1 := hI.grow bX
  have hsz := bX.size
  have q22 : ∀ (w : World) (a : Option Addr) (n c n' c' : Nat), (binOp .eql 23 (.slice a n c) (.slice none n' c')).run Try.prog w = .ok (.bool a.isNone) w := fun w a n c n' c' => Lib.run_eql_slice_nil w _ _ a n c n' c' Try.underlying23
  go_enter Try.func70, Try.ntmps70
  go_wp2_with (at_builtin; refine wpList_append_ints rfl (.tmp 5) (.tmp 6) _ rfl w.heap.size 3 .i64 8 Try.underlying23 int_info (.slice (some ⟨w.heap.size, 0, none⟩) 0 0) [] rfl own0 (some ⟨b, off, none⟩) c E n hn rfl hI1 (by simp; omega) (by omega) hsz ?_; intro v1 w1 own1 g1 a1; have b1 := bX.grown g1 hsz (fun k e => (own0.lt e).1))
  go_ret
  rw [List.nil_append] at own1
  obtain ⟨g, cap, rfl, hgb, hgl⟩ := own1.form (by omega)
  rw [hn] at own1 ⊢
  exact ⟨g, cap, rfl, b1, hgb, own1.nxb hn⟩
theorem flat_src {w : World} {b off : Nat} {L : List (Int × Int)} (hc : ∀ i, i < L.length → w.cell? ⟨b, off + i * 2, none⟩ = some (.int .i64 (prAt L i).1) ∧ w.cell? ⟨b, off + i * 2 + 1, none⟩ = some (.int .i64 (prAt L i).2)) : ∀ j u, (L.flatMap liC)[j]? = some u → w.cell? ((⟨b, off, none⟩ : Addr).add j) = some u := fun j u hu => by
  have e1 : (Addr.add ⟨b, off, none⟩ j) = ⟨b, off + j, none⟩ := by unfold Addr.add; split <;> simp_all
  rw [e1]
  have hj : j < L.length * 2 := by
    rcases Nat.lt_or_ge j (L.flatMap liC).length with h | h
    · rw [flat_li_len] at h; exact h
    · rw [List.getElem?_eq_none h] at hu; cases hu
  have hi2 : j / 2 < L.length := by omega
  have h1 := flat_li L _ hi2
  have h2 := hc _ hi2
  rcases (by omega : j % 2 = 0 ∨ j % 2 = 1) with e | e
  · rw [show j = j / 2 * 2 by omega, h1.1] at hu
    rw [show off + j = off + j / 2 * 2 by omega, h2.1, ← hu]
  · rw [show j = j / 2 * 2 + 1 by omega, h1.2] at hu
    rw [show off + j = off + j / 2 * 2 + 1 by omega, h2.2, ← hu]
theorem liC_one {L : List (Int × Int)} : ∀ u ∈ L.flatMap liC, u.oneCell' = true := fun u hu => by
  obtain ⟨x, _, hx⟩ := List.mem_flatMap.1 hu
  simp only [liC, List.mem_cons, List.not_mem_nil, or_false] at hx
  rcases hx with rfl | rfl <;> rfl
theorem clone_li (A : Option Addr) (n c : Nat) (L : List (Int × Int)) (w : World) (hn : L.length = n) (hI : Prs w w.heap.size A L) (hp : 0 < n) (hl : n ≤ 1000) :
    Calls Try.prog 69 #[.slice A n c] w fun e w' => ∃ g cl : Nat, e = .returned (.slice (some ⟨g, 0, none⟩) n cl) ∧ Below w.heap.size w w' ∧ w.heap.size ≤ g ∧ n ≤ cl ∧ LiB w' g L := by
  obtain ⟨i0, hi, hz, hs0, hby⟩ := info_parts li_info
  have row0 := row_empty (w := w) (e := 45) (size := 2) (Nat.le_refl w.heap.size)
  have bX := lat_alloc (Below.refl w.heap.size w) (.cells #[] 45)
  obtain ⟨b, off, rfl, hB, hc⟩ := (hI.grow bX) (by omega)
  have hsrc := flat_src hc
  have hlen : (L.flatMap liC).length = n * 2 := by rw [flat_li_len, hn]
  have hsz := bX.size
  have q22 : ∀ (w : World) (a : Option Addr) (n c n' c' : Nat), (binOp .eql 22 (.slice a n c) (.slice none n' c')).run Try.prog w = .ok (.bool a.isNone) w := fun w a n c n' c' => Lib.run_eql_slice_nil w _ _ a n c n' c' Try.underlying22
  have HC := Lib.hid hc
  have HS := Lib.hid hsrc
  have HLN := Lib.hid hlen
  clear hc hsrc hlen hI
  go_enter Try.func69, Try.ntmps69
  go_wp2_with (at_builtin; refine wpList_append_own_at _ rfl (.tmp 5) (.tmp 6) 22 rfl w.heap.size 45 i0 _ 2 16 Try.underlying22 hi hz hs0 hby rfl (by omega) (.slice (some ⟨w.heap.size, 0, none⟩) 0 0) 0 [] rfl row0 ⟨b, off, none⟩ n c (L.flatMap liC) rfl HLN.out HS.out liC_one (by unfold maxLen; omega) (by omega) hsz ?_; intro v1 w1 own1 g1 a1 a2; have b1 := bX.grown g1 hsz (fun k e => by simp [Value.ownBlock] at e; omega))
  go_ret
  rw [List.nil_append, Nat.zero_add] at own1
  obtain ⟨hlen, ⟨rfl, h0⟩ | ⟨g, cap, cur, rfl, hgb, hrest⟩⟩ := own1
  · omega
  · have own1 : w1.ownsRow w.heap.size 45 2 (.slice (some ⟨g, 0, none⟩) n cap) n (L.flatMap liC) := ⟨hlen, .inr ⟨g, cap, cur, rfl, hgb, hrest⟩⟩
    obtain ⟨cs, hBk, hcc⟩ := row_block_of own1
    exact ⟨g, cap, rfl, b1, hgb, row_cap own1, cs, hBk, fun i hi => ⟨hcc _ _ (flat_li L i hi).1, hcc _ _ (flat_li L i hi).2⟩⟩
set_option maxHeartbeats 2000000 in
theorem clone_ct (D E : Option Addr) (cL cX n : Nat) (c : Ct) (w : World) (hLn : c.li.length = n) (hXn : c.nx.length = 2) (hL : Prs w w.heap.size D c.li) (hX : Ints .i64 w w.heap.size E c.nx) (h1 : 0 < n) (h8 : n ≤ 60) :
    Calls Try.prog 45 #[.agg #[.slice D n cL, .int .i64 c.gr, .slice E 2 cX, .int .i64 c.wt]] w fun e w' => ∃ gl cl gx cx : Nat, e = .returned (.agg #[.slice (some ⟨gl, 0, none⟩) n cl, .int .i64 c.gr, .slice (some ⟨gx, 0, none⟩) 2 cx, .int .i64 c.wt]) ∧ Below w.heap.size w w' ∧ w.heap.size ≤ gl ∧ n ≤ cl ∧ w.heap.size ≤ gx ∧ gl ≠ gx ∧ LiB w' gl c.li ∧ NxB w' gx c.nx := by
  have HL := Lib.hid hLn
  have HX := Lib.hid hXn
  clear hLn hXn
  go_enter Try.func45, Try.ntmps45
  go_wp2_with fail
  obtain ⟨W0, hW0⟩ : ∃ W0, W0 = (w.alloc (.cells #[.slice D n cL, .int .i64 c.gr, .slice E 2 cX, .int .i64 c.wt] 25)).alloc (.cells #[.slice none 0 0, .int .i64 0, .slice none 0 0, .int .i64 0] 25) := ⟨_, rfl⟩
  have hsz : W0.heap.size = w.heap.size + 1 + 1 := by rw [hW0]; simp only [World.size_alloc]
  have hB0 : Below w.heap.size w W0 := by
    rw [hW0]
    exact lat_alloc (lat_alloc (Below.refl w.heap.size w) _) _
  have bC : Blk W0 w.heap.size 25 #[.slice D n cL, .int .i64 c.gr, .slice E 2 cX, .int .i64 c.wt] := by
    have := (Blk.new (w := w) (t := 25) (cs := #[.slice D n cL, .int .i64 c.gr, .slice E 2 cX, .int .i64 c.wt])).alloc (.cells #[.slice none 0 0, .int .i64 0, .slice none 0 0, .int .i64 0] 25)
    rw [← hW0] at this; simpa only [World.size_alloc] using this
  have bR : Blk W0 (w.heap.size + 1) 25 #[.slice none 0 0, .int .i64 0, .slice none 0 0, .int .i64 0] := by
    have := Blk.new (w := w.alloc (.cells #[.slice D n cL, .int .i64 c.gr, .slice E 2 cX, .int .i64 c.wt] 25)) (t := 25) (cs := #[.slice none 0 0, .int .i64 0, .slice none 0 0, .int .i64 0])
    rw [← hW0] at this; simpa only [World.size_alloc] using this
  rw [← hW0]
  clear hW0
  refine (clone_li D n cL c.li W0 HL.out (hL.grow hB0) h1 (by omega)).mono ?_
  rintro e w1 ⟨gl, cl, rfl, b1, hgl, hcl, L1⟩
  have C1 := bC.below b1
  have R1 := bR.below b1
  go_wp2_with (refine step_store_ll (by rfl) (by rfl) (by rfl) (by rfl) (by rfl) C1 (by rfl) ?_; intro w2 C2 hg2; have k2 := C2.at 2 rfl)
  have B1 : Below w.heap.size w w1 := hB0.trans (b1.mono (by omega))
  have B2 : Below w.heap.size w w2 := B1.grown hg2 B1.size (fun k e => by injection e with e; omega)
  have L2 := L1.grown hg2 (by intro e; injection e with e; omega)
  have R2 := R1.grown hg2 (by intro e; injection e with e; omega)
  have hs2 : W0.heap.size ≤ w2.heap.size := Nat.le_trans b1.size hg2.size
  have hl2 := L2.lt
  refine (clone_nx E 2 cX c.nx w2 HX.out (hX.grow B2) (by omega) (by omega)).mono ?_
  rintro e w3 ⟨gx, cx, rfl, b3, hgx, N3⟩
  clear k2
  have C3 := C2.below b3
  have R3 := R2.below b3
  have L3 := L2.below b3
  go_wp2_with (first | (refine step_store_sl (by rfl) (by rfl) (by rfl) (by rfl) (by rfl) C3 (by rfl) ?_; intro w4 C4 hg4; have q0 := C4.at 0 rfl; have q1 := C4.at 1 rfl; have q2 := C4.at 2 rfl; have q3 := C4.at 3 rfl; have R4 := R3.grown hg4 (by intro e; injection e with e; omega)) | (refine step_store_ct (by rfl) (by rfl) (by rfl) (by rfl) (by rfl) R4 ?_; intro w5 R5 hg5))
  have B3 : Below w.heap.size w w3 := B2.trans (b3.mono B2.size)
  have B4 : Below w.heap.size w w4 := B3.grown hg4 B3.size (fun k e => by injection e with e; omega)
  refine bodyPost_ret (results_cell rfl rfl (load_control R5)) rfl ?_
  refine ⟨gl, cl, gx, cx, rfl, B4.grown hg5 B4.size (fun k e => by injection e with e; omega), by omega, hcl, by omega, by omega, ?_, ?_⟩
  · exact (L3.grown hg4 (by intro e; injection e with e; omega)).grown hg5 (by intro e; injection e with e; omega)
  · exact (N3.grown hg4 (by intro e; injection e with e; omega)).grown hg5 (by intro e; injection e with e; omega)
end Go.Proofs.Ytkpbkahmbbkcdaa
