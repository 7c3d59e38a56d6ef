/-
  A junction that is drawn from a deck. Conditions: none.
-/
import Derived.Test.YtkpbkahmbbkcdaaSh
namespace Go.Proofs.Ytkpbkahmbbkcdaa
open Go.ChangeShapes Go.WideShapes Go.RowKit
set_option linter.unusedVariables false

theorem int_info : (Try.prog.info? 3).map (fun i => (i.zero, i.size, i.bytes)) = some (some (.int .i64 0), 1, 8) := by kernel_rfl
theorem phase_info : (Try.prog.info? 51).map (fun i => (i.zero, i.size, i.bytes)) = some (some (.agg #[.int .i64 0, .int .i64 0, .int .i64 0, .int .i64 0, .int .i64 0, .int .i64 0, .int .i64 0, .int .i64 0]), 8, 64) := by kernel_rfl
/-- What the first loop of Junction knows. -/
structure JRel (g g4 : Nat) (w : World) (A : Option Addr) (S : List (Int × Int)) (st : Int) (i : Nat) (P : List Ph) (vP : Value) (wr : World) : Prop where
  gr : Gr g w wr
  dk : DeckOk wr g
  res : Blk wr w.heap.size 30 #[.slice none 0 0, .slice none 0 0, .int .i64 0]
  jn : Blk wr g4 30 #[vP, .slice none 0 0, .int .i64 st]
  own : wr.ownsRow (g4 + 1) 51 8 vP P.length (P.flatMap Ph.cells)
  len : P.length = i
  sh : ∀ j, j < i → (phAt P j).ri = (prAt S j).1 ∧ (phAt P j).gr = (prAt S j).2
  ok : ∀ p ∈ P, PhOk p
  prs : Prs wr wr.heap.size A S
theorem JRel.move {g g4 : Nat} {w : World} {A : Option Addr} {S : List (Int × Int)} {st : Int} {i : Nat} {P : List Ph} {vP : Value} {wr w' : World} (h : JRel g g4 w A S st i P vP wr) (hg : g < w.heap.size) (h4 : w.heap.size < g4)
    (hA : ∀ a, A = some a → w.heap.size < a.block ∧ a.block < g4) (hb : Gr g wr w') : JRel g g4 w A S st i P vP w' :=
  ⟨h.gr.trans hb, hb.2 h.dk, hb.blk h.res (by omega), hb.blk h.jn (by omega), row_block h.own (fun b h1 h2 _ => hb.1.block b h2 (fun e => by injection e with e; omega)), h.len, h.sh, h.ok,
    h.prs.keep hb.size (fun a ha hB => hb.1.block _ hB (fun e => by injection e with e; have := hA a ha; omega))⟩
/-- A change in a block that is newer than all that. -/
theorem JRel.fresh {g g4 gp B : Nat} {w : World} {A : Option Addr} {S : List (Int × Int)} {st : Int} {i : Nat} {P : List Ph} {vP : Value} {wr w' : World} (h : JRel g g4 w A S st i P vP wr) (hg : g < w.heap.size) (h4 : w.heap.size < g4) (hB4 : g4 < B) (hgp : B ≤ gp)
    (hA : ∀ a, A = some a → w.heap.size < a.block ∧ a.block < g4) (hv : ∀ b, vP.ownBlock = some b → b < B) (hb : wr.grownBy w' (some gp)) : JRel g g4 w A S st i P vP w' := by
  have hx := h.gr.more h.dk hg hb (fun k e => by injection e with e; omega)
  exact ⟨hx.1, hx.2, h.res.grown hb (fun e => by injection e with e; omega), h.jn.grown hb (fun e => by injection e with e; omega), row_block h.own (fun b h1 h2 h3 => hb.block b h2 (fun e => by injection e with e; have := hv b h3; omega)), h.len, h.sh, h.ok,
    h.prs.keep hb.size (fun a ha hB => hb.block _ hB (fun e => by injection e with e; have := hA a ha; omega))⟩
theorem phAt_app (P : List Ph) (p : Ph) (j : Nat) : phAt (P ++ [p]) j = if j < P.length then phAt P j else if j = P.length then p else phAt [] 0 := by
  unfold phAt
  simp only [List.getD_eq_getElem?_getD]
  split
  · rw [List.getElem?_append_left (by assumption)]
  · rw [List.getElem?_append_right (by omega)]
    split
    · rename_i h1 h2; subst h2; simp
    · rw [List.getElem?_eq_none (by simp; omega)]; rfl
theorem JRel.push {g g4 : Nat} {w : World} {A : Option Addr} {S : List (Int × Int)} {st : Int} {i : Nat} {P : List Ph} {vP v' : Value} {w10 w11 : World} {p : Ph} (h : JRel g g4 w A S st i P vP w10) (hg : g < w.heap.size) (h4 : w.heap.size < g4)
    (hA : ∀ a, A = some a → w.heap.size < a.block ∧ a.block < g4) (hgr : w10.grownBy w11 vP.ownBlock) (hown : w11.ownsRow (g4 + 1) 51 8 v' (P.length + 1) (P.flatMap Ph.cells ++ p.cells)) (hp : PhOk p) (hs : p.ri = (prAt S i).1 ∧ p.gr = (prAt S i).2) :
    JRel g g4 w A S st (i + 1) (P ++ [p]) v' (w11.setCell ⟨g4, 0, none⟩ v') := by
  have hlt := fun b (hb : vP.ownBlock = some b) => row_lt h.own hb
  have hx := Gr.set (b := g4) (i := 0) (h.gr.more h.dk hg hgr (fun k e => by have := (hlt k e).1; omega)) hg v' (by omega)
  refine ⟨hx.1, hx.2, (h.res.grown hgr (fun e => by have := (hlt _ e).1; omega)).far (p := ⟨g4, 0, none⟩) (by simp; omega) v', (h.jn.grown hgr (fun e => by have := (hlt _ e).1; omega)).set_ 0 v', ?_, by rw [List.length_append, h.len]; rfl, fun j hj => ?_, fun q hq => ?_, ?_⟩
  · rw [List.length_append, List.flatMap_append]
    exact row_block (by simpa using hown) (fun b h1 _ _ => Below.heap_setCell _ ⟨g4, 0, none⟩ _ _ (by simp; omega))
  · have hl := h.len
    rw [phAt_app]
    by_cases e : j < P.length
    · rw [if_pos e]; exact h.sh j (by omega)
    · have e2 : j = P.length := by omega
      rw [if_neg e, if_pos e2, e2, hl]; exact hs
  · rcases List.mem_append.1 hq with h' | h'
    · exact h.ok q h'
    · rw [List.mem_singleton] at h'; subst h'; exact hp
  · refine h.prs.keep (by rw [size_set]; exact hgr.size) (fun a ha hB => ?_)
    rw [Below.heap_setCell _ _ _ _ (by have := hA a ha; simp; omega)]
    exact hgr.block _ hB (fun e => by have := (hlt _ e.symm).1; have := hA a ha; omega)
/-- A junction that was drawn: its phases, its rows of conflicts. -/
structure JunOk (q : Nat) (st : Int) (ex : Bool) (P : List Ph) : Prop where
  st : 0 ≤ st ∧ st ≤ 2
  len : P.length = (shapeL q).length
  sh : ∀ j, j < P.length → (phAt P j).ri = (prAt (shapeL q) j).1 ∧ (phAt P j).gr = (prAt (shapeL q) j).2
  ok : ∀ p ∈ P, PhOk p
def JunOut (w : World) (e : Ending) (w' : World) : Prop := ∃ (q : Nat) (st : Int) (ex : Bool) (P : List Ph) (A B : Option Addr) (c d : Nat),
  e = .returned (.agg #[.slice A P.length c, .slice B P.length d, .int .i64 st]) ∧ JunOk q st ex P ∧ Phs w' w'.heap.size A P ∧ Ints .i64 w' w'.heap.size B (rowsL P ex) ∧ (∀ a, A = some a → w.heap.size ≤ a.block) ∧ (∀ a, B = some a → w.heap.size ≤ a.block) ∧ P.length ≤ c ∧ P.length ≤ d
theorem grown_more {V a b : World} {row row' : Option Nat} (h : V.grownBy a row) (k : a.grownBy b row') (hr : ∀ j, row' = some j → V.heap.size ≤ j ∨ row = some j) : V.grownBy b row :=
  ⟨k.os.trans h.os, k.tape.trans h.tape, k.output.trans h.output, Nat.le_trans h.size k.size, fun i hi hne => (k.block i (Nat.lt_of_lt_of_le hi h.size) (fun e => by
    rcases hr i e.symm with h1 | h1
    · omega
    · exact hne h1.symm)).trans (h.block i hi hne)⟩
theorem own_set {k : IntKind} {e : TypeId} {w : World} {base g i : Nat} {v : Value} {l : List Int} (h : Own k e w base v l) (u : Value) (hb : g < base) : Own k e (w.setCell ⟨g, i, none⟩ u) base v l :=
  h.block fun b hv => Below.heap_setCell w ⟨g, i, none⟩ u b (fun e => by have := (h.lt hv).1; simp at e; omega)
theorem own_len {k : IntKind} {e : TypeId} {w : World} {base n : Nat} {v : Value} {l : List Int} (h : Own k e w base v l) (hn : l.length = n) : ∃ A c, v = .slice A n c := by
  obtain ⟨A, c, hv, _⟩ := h.ints
  exact ⟨A, c, by rw [hv, hn]⟩
theorem results_cell {P : Program} {w : World} {fn : Func} {t : TypeId} {a : Tmp} {A : Addr} {V : Value} {tmps : Array Value} (h : fn.results = #[.cell a t]) (ha : tmps.getD a undef = .pointer (some A)) (hl : (loadVar t A).run P w = .ok V w) :
    (results fn tmps).run P w = .ok V w := by
  rw [Array.getD_eq_getD_getElem?] at ha
  simp [results, h, ha, asAddr, hl]
theorem load_junction {w : World} {g : Nat} {a b c : Value} (h : Blk w g 30 #[a, b, c]) : (loadVar 30 ⟨g, 0, none⟩).run Try.prog w = .ok (.agg #[a, b, c]) w := by
  have c0 := Blk.cell h 0
  have c1 := Blk.cell h 1
  have c2 := Blk.cell h 2
  go_simp
theorem rowV_succ_yes {P : List Ph} {ex : Bool} {i k : Nat} (h : confB P ex i k = true) : ((rowV P ex i k : Nat) : Int) + 2 ^ k = (rowV P ex i (k + 1) : Nat) := by
  rw [rowV, if_pos h]; simp
theorem rowV_succ_no {P : List Ph} {ex : Bool} {i k : Nat} (h : confB P ex i k = false) : ((rowV P ex i k : Nat) : Int) = (rowV P ex i (k + 1) : Nat) := by
  rw [rowV, if_neg (by simp [h])]; simp
theorem pow_60 {k : Nat} (hk : k ≤ 60) : (2 : Nat) ^ k ≤ 2 ^ 60 := Nat.pow_le_pow_right (by decide) hk
theorem wrap_pow {k : Nat} (hk : k ≤ 60) : wrap64 ((2 : Int) ^ k) = ((2 ^ k : Nat) : Int) := by
  have h1 := pow_60 hk
  have e : ((2 ^ k : Nat) : Int) = (2 : Int) ^ k := by simp
  rw [← e]
  have h2 : (2 : Nat) ^ 60 = 1152921504606846976 := by decide
  generalize (2 : Nat) ^ k = m at *
  unfold wrap64
  omega
theorem rowV_wrap {P : List Ph} {ex : Bool} {i k : Nat} (h : confB P ex i k = true) (hk : k ≤ 7) : wrap64 (((rowV P ex i k : Nat) : Int) + wrap64 (2 ^ k)) = ((rowV P ex i (k + 1) : Nat) : Int) := by
  rw [wrap_pow (by omega), rowV, if_pos h]
  have h1 := rowV_lt P ex i k
  have h2 : (2 : Nat) ^ k ≤ 128 := by
    have := Nat.pow_le_pow_right (n := 2) (by decide) hk
    simpa using this
  generalize (2 : Nat) ^ k = m at *
  unfold wrap64
  omega
set_option maxRecDepth 100000 in
set_option maxHeartbeats 8000000 in
theorem junction_any (g : Nat) (w : World) (hdk0 : DeckOk w g) :
    Calls Try.prog 14 #[.pointer (some ⟨g, 0, none⟩)] w fun e w' => Gr g w w' ∧ DeckOk w' g ∧ JunOut w e w' := by
  have hg := hdk0.lt
  go_enter Try.func14, Try.ntmps14
  go_wp2_with fail
  have b0 := lat_alloc (Below.refl w.heap.size w) (.cells #[.slice none 0 0, .slice none 0 0, .int .i64 0] 30)
  have R0 := Blk.new (w := w) (t := 30) (cs := #[.slice none 0 0, .slice none 0 0, .int .i64 0])
  have hd0 := hdk0.below b0
  have hG0 : Gr g w (w.alloc (.cells #[.slice none 0 0, .slice none 0 0, .int .i64 0] 30)) := Gr.of_below b0
  generalize w.alloc (.cells #[.slice none 0 0, .slice none 0 0, .int .i64 0] 30) = W0 at *
  refine (next_ok g 6 W0 hd0 (by omega) (by omega)).mono ?_
  rintro e Wa ⟨hga, hda, q, q0, q1, rfl⟩
  obtain ⟨q, rfl⟩ := Int.eq_ofNat_of_zero_le q0
  go_wp2_with fail
  refine (shapes_any q (by omega) Wa).mono ?_
  rintro e Wb ⟨hbb, A, c, rfl, hPrs, hAb⟩
  have hSl := shapeL_len q
  have hla := hda.lt
  generalize hSS : shapeL q = S at *
  have hGb := (hG0.trans hga).trans (Gr.of_below hbb)
  have hdb := hda.below hbb
  have Rb := (hga.blk R0 (by omega)).below hbb
  have hRa := (hga.blk R0 (by omega)).lt
  go_wp2_with fail
  refine (next_ok g 3 Wb hdb (by omega) (by omega)).mono ?_
  rintro e Wc ⟨hgc, hdc, st, st0, st1, rfl⟩
  have hsbc := hbb.size
  have hscc := hgc.size
  have hAc : ∀ a, A = some a → w.heap.size < a.block := fun a ha => by have := hAb a ha; omega
  have hprc : Prs Wc Wc.heap.size A S := hPrs.keep hscc (fun a ha hB => hgc.1.block _ hB (fun e => by injection e with e; have := hAc a ha; omega))
  have hAl : ∀ a, A = some a → w.heap.size < a.block ∧ a.block < Wc.heap.size := fun a ha => ⟨hAc a ha, by
    obtain ⟨b, off, hA', hB', _⟩ := hprc (by omega)
    rw [ha] at hA'
    injection hA' with hA'
    subst hA'
    exact hB'⟩
  have hGc := hGb.trans hgc
  have Rc := hgc.blk Rb (by omega)
  have hRc := Rc.lt
  go_wp2_with fail
  have bJ := lat_alloc (Below.refl Wc.heap.size Wc) (.cells #[.slice none 0 0, .slice none 0 0, .int .i64 st] 30)
  have J0 := Blk.new (w := Wc) (t := 30) (cs := #[.slice none 0 0, .slice none 0 0, .int .i64 st])
  have hrel0 : JRel g Wc.heap.size w A S st 0 [] (.slice none 0 0) (Wc.alloc (.cells #[.slice none 0 0, .slice none 0 0, .int .i64 st] 30)) :=
    ⟨hGc.trans (Gr.of_below bJ), hdc.below bJ, Rc.below bJ, J0, row_nil, rfl, (fun j hj => by omega), (fun p hp => by cases hp), hprc.grow bJ⟩
  generalize Wc.alloc (.cells #[.slice none 0 0, .slice none 0 0, .int .i64 st] 30) = W at *
  generalize Wc.heap.size = g4 at *
  clear bJ J0 hPrs hprc hga hda hbb hdb hgc hdc Rb Rc R0 hG0 hd0 b0 hGb hGc
  go_loopw [22] (fun v wr => ∃ (i : Nat) (P : List Ph) (vP : Value), v = .int .i64 i ∧ i ≤ S.length ∧ JRel g g4 w A S st i P vP wr) (fun v _ => S.length - (intOf v).toNat)
  case atStart => exact ⟨0, [], _, rfl, by omega, hrel0⟩
  case round =>
    obtain ⟨i, P, vP, rfl, hi, hR⟩ := hrel
    by_cases hlt : i < S.length
    · have hlt' : (i : Int) < S.length := by omega
      obtain ⟨b, off, rfl, hB, hs0, hs1⟩ := hR.prs.at hlt
      generalize hsa : (prAt S i).1 = sa at *
      generalize hsb : (prAt S i).2 = sb at *
      go_wp2_with fail
      have b6 := lat_alloc (Below.refl wr.heap.size wr) (.cells #[.int .i64 sa, .int .i64 sb] 62)
      have B6 := Blk.new (w := wr) (t := 62) (cs := #[.int .i64 sa, .int .i64 sb])
      have hg6 : g4 < wr.heap.size := hR.jn.lt
      have hR1 := hR.move hg hRc hAl (Gr.of_below b6)
      have hvW : ∀ b, vP.ownBlock = some b → b < wr.heap.size := fun b hb => (row_lt hR.own hb).2
      clear hR hs0 hs1
      generalize hW1 : wr.alloc (.cells #[.int .i64 sa, .int .i64 sb] 62) = W1 at *
      have hg6' : wr.heap.size < W1.heap.size := by rw [← hW1, heap_size]; omega
      clear hW1
      generalize wr.heap.size = g6 at *
      have hdk1 := hR1.dk
      refine wp_region_pre (R := (Gr g)) 12 125 [fun v _ => v = .pointer (some ⟨g6, 0, none⟩), fun v _ => v = .int .i64 sa, fun v _ => v = .pointer (some ⟨g6, 1, none⟩), fun v _ => v = .int .i64 sb, fun v _ => v = .pointer (some ⟨g, 0, none⟩), fun v w => ∃ x : Int, v = .int .i64 x ∧ 1 ≤ x ∧ x ≤ 3, fun v _ => v = .pointer (some ⟨g, 0, none⟩), fun v w => ∃ x : Int, v = .int .i64 x ∧ 1 ≤ x ∧ x ≤ 2, fun v _ => v = .pointer (some ⟨g, 0, none⟩), fun v w => ∃ x : Int, v = .int .i64 x ∧ 0 ≤ x ∧ x ≤ 2, fun v w => ∃ x y z : Int, v = .agg #[.int .i64 sa, .int .i64 sb, .int .i64 x, .int .i64 0, .int .i64 y, .int .i64 z, .int .i64 0, .int .i64 0] ∧ 1 ≤ x ∧ x ≤ 3 ∧ 1 ≤ y ∧ y ≤ 2 ∧ 0 ≤ z ∧ z ≤ 2, fun v w => ∃ gp : Nat, v = .pointer (some ⟨gp, 0, none⟩) ∧ W1.heap.size ≤ gp ∧ Blk w gp 51 #[.int .i64 0, .int .i64 0, .int .i64 0, .int .i64 0, .int .i64 0, .int .i64 0, .int .i64 0, .int .i64 0]] (Gr.trans) (Gr.drew) (by kernel_rfl) (fun _ _ d _ _ h => by cases d <;> exact h) rfl (by kernel_rfl) (stay_cons (stays_v _) (stay_cons (stays_v _) (stay_cons (stays_v _) (stay_cons (stays_v _) (stay_cons (stays_v _) (stay_cons (fun _ _ _ h _ => h) (stay_cons (stays_v _) (stay_cons (fun _ _ _ h _ => h) (stay_cons (stays_v _) (stay_cons (fun _ _ _ h _ => h) (stay_cons (fun _ _ _ h _ => h) (stay_cons (fun _ _ _ ⟨b, h1, h2, h3⟩ hb => ⟨b, h1, h2, hb.blk h3 (by omega)⟩) (stay_nil))))))))))))) ?_ ?_
      · simp only [List.take_succ_cons, List.take_zero]
        refine steps_cons (Gr.refl) (fun ev xw hb hc hf hfr hd hr => ?_) ?_
        · have e6 : ev (.tmp 6) = .pointer (some ⟨g6, 0, none⟩) := hfr 6 (by kernel_rfl)
          clear hfr hd
          show OpOk _ _ ev xw fun v w' => (Gr g) xw w' ∧ v = .pointer (some ⟨g6, 0, none⟩)
          refine opOk_hid (fun Rp HR => ?_)
          unfold OpOk
          go_simp
          rw [HR.out]
          exact ⟨hr, rfl⟩
        refine steps_cons (Gr.refl) (fun ev xw hb hc hf hfr hd hr => ?_) ?_
        · have e26 : ev (.tmp 26) = .pointer (some ⟨g6, 0, none⟩) := hd 0 26 (by kernel_rfl)
          clear hfr hd
          have k6 := hb.blk B6 (by omega)
          have k60 := k6.at 0 rfl
          show OpOk _ _ ev xw fun v w' => (Gr g) xw w' ∧ v = .int .i64 sa
          refine opOk_hid (fun Rp HR => ?_)
          unfold OpOk
          go_simp
          rw [HR.out]
          exact ⟨hr, rfl⟩
        refine steps_cons (Gr.refl) (fun ev xw hb hc hf hfr hd hr => ?_) ?_
        · have e6 : ev (.tmp 6) = .pointer (some ⟨g6, 0, none⟩) := hfr 6 (by kernel_rfl)
          clear hfr hd
          show OpOk _ _ ev xw fun v w' => (Gr g) xw w' ∧ v = .pointer (some ⟨g6, 1, none⟩)
          refine opOk_hid (fun Rp HR => ?_)
          unfold OpOk
          go_simp
          rw [HR.out]
          exact ⟨hr, rfl⟩
        refine steps_cons (Gr.refl) (fun ev xw hb hc hf hfr hd hr => ?_) ?_
        · have e28 : ev (.tmp 28) = .pointer (some ⟨g6, 1, none⟩) := hd 2 28 (by kernel_rfl)
          clear hfr hd
          have k6 := hb.blk B6 (by omega)
          have k61 := k6.at 1 rfl
          show OpOk _ _ ev xw fun v w' => (Gr g) xw w' ∧ v = .int .i64 sb
          refine opOk_hid (fun Rp HR => ?_)
          unfold OpOk
          go_simp
          rw [HR.out]
          exact ⟨hr, rfl⟩
        refine steps_cons (Gr.refl) (fun ev xw hb hc hf hfr hd hr => ?_) ?_
        · have e0 : ev (.tmp 0) = .pointer (some ⟨g, 0, none⟩) := hfr 0 (by kernel_rfl)
          clear hfr hd
          show OpOk _ _ ev xw fun v w' => (Gr g) xw w' ∧ v = .pointer (some ⟨g, 0, none⟩)
          refine opOk_hid (fun Rp HR => ?_)
          unfold OpOk
          go_simp
          rw [HR.out]
          exact ⟨hr, rfl⟩
        refine steps_cons (Gr.refl) (fun ev xw hb hc hf hfr hd hr => ?_) ?_
        · have e30 : ev (.tmp 30) = .pointer (some ⟨g, 0, none⟩) := hd 4 30 (by kernel_rfl)
          clear hfr hd
          show OpOk _ _ ev xw fun v w' => (Gr g) xw w' ∧ ∃ x : Int, v = .int .i64 x ∧ 1 ≤ x ∧ x ≤ 3
          refine opOk_hid (fun Rp HR => ?_)
          unfold OpOk
          go_simp
          refine (range_ok g 1 3 xw (hb.2 hdk1) (by omega) (by omega) (by omega)).mono ?_
          rintro e w'' ⟨hgr, hdk', x, h0, h1, rfl⟩
          refine ⟨_, rfl, ?_⟩
          rw [HR.out]
          exact ⟨hgr, x, rfl, by omega, by omega⟩
        refine steps_cons (Gr.refl) (fun ev xw hb hc hf hfr hd hr => ?_) ?_
        · have e0 : ev (.tmp 0) = .pointer (some ⟨g, 0, none⟩) := hfr 0 (by kernel_rfl)
          clear hfr hd
          show OpOk _ _ ev xw fun v w' => (Gr g) xw w' ∧ v = .pointer (some ⟨g, 0, none⟩)
          refine opOk_hid (fun Rp HR => ?_)
          unfold OpOk
          go_simp
          rw [HR.out]
          exact ⟨hr, rfl⟩
        refine steps_cons (Gr.refl) (fun ev xw hb hc hf hfr hd hr => ?_) ?_
        · have e32 : ev (.tmp 32) = .pointer (some ⟨g, 0, none⟩) := hd 6 32 (by kernel_rfl)
          clear hfr hd
          show OpOk _ _ ev xw fun v w' => (Gr g) xw w' ∧ ∃ x : Int, v = .int .i64 x ∧ 1 ≤ x ∧ x ≤ 2
          refine opOk_hid (fun Rp HR => ?_)
          unfold OpOk
          go_simp
          refine (range_ok g 1 2 xw (hb.2 hdk1) (by omega) (by omega) (by omega)).mono ?_
          rintro e w'' ⟨hgr, hdk', x, h0, h1, rfl⟩
          refine ⟨_, rfl, ?_⟩
          rw [HR.out]
          exact ⟨hgr, x, rfl, by omega, by omega⟩
        refine steps_cons (Gr.refl) (fun ev xw hb hc hf hfr hd hr => ?_) ?_
        · have e0 : ev (.tmp 0) = .pointer (some ⟨g, 0, none⟩) := hfr 0 (by kernel_rfl)
          clear hfr hd
          show OpOk _ _ ev xw fun v w' => (Gr g) xw w' ∧ v = .pointer (some ⟨g, 0, none⟩)
          refine opOk_hid (fun Rp HR => ?_)
          unfold OpOk
          go_simp
          rw [HR.out]
          exact ⟨hr, rfl⟩
        refine steps_cons (Gr.refl) (fun ev xw hb hc hf hfr hd hr => ?_) ?_
        · have e34 : ev (.tmp 34) = .pointer (some ⟨g, 0, none⟩) := hd 8 34 (by kernel_rfl)
          clear hfr hd
          show OpOk _ _ ev xw fun v w' => (Gr g) xw w' ∧ ∃ x : Int, v = .int .i64 x ∧ 0 ≤ x ∧ x ≤ 2
          refine opOk_hid (fun Rp HR => ?_)
          unfold OpOk
          go_simp
          refine (next_ok g 3 xw (hb.2 hdk1) (by omega) (by omega)).mono ?_
          rintro e w'' ⟨hgr, hdk', x, h0, h1, rfl⟩
          refine ⟨_, rfl, ?_⟩
          rw [HR.out]
          exact ⟨hgr, x, rfl, by omega, by omega⟩
        refine steps_cons (Gr.refl) (fun ev xw hb hc hf hfr hd hr => ?_) ?_
        · have e27 : ev (.tmp 27) = .int .i64 sa := hd 1 27 (by kernel_rfl)
          have e29 : ev (.tmp 29) = .int .i64 sb := hd 3 29 (by kernel_rfl)
          obtain ⟨x31, e31, y31, z31⟩ : ∃ x : Int, ev (.tmp 31) = .int .i64 x ∧ 1 ≤ x ∧ x ≤ 3 := hd 5 31 (by kernel_rfl)
          obtain ⟨x33, e33, y33, z33⟩ : ∃ x : Int, ev (.tmp 33) = .int .i64 x ∧ 1 ≤ x ∧ x ≤ 2 := hd 7 33 (by kernel_rfl)
          obtain ⟨x35, e35, y35, z35⟩ : ∃ x : Int, ev (.tmp 35) = .int .i64 x ∧ 0 ≤ x ∧ x ≤ 2 := hd 9 35 (by kernel_rfl)
          clear hfr hd
          show OpOk _ _ ev xw fun v w' => (Gr g) xw w' ∧ ∃ x y z : Int, v = .agg #[.int .i64 sa, .int .i64 sb, .int .i64 x, .int .i64 0, .int .i64 y, .int .i64 z, .int .i64 0, .int .i64 0] ∧ 1 ≤ x ∧ x ≤ 3 ∧ 1 ≤ y ∧ y ≤ 2 ∧ 0 ≤ z ∧ z ≤ 2
          refine opOk_hid (fun Rp HR => ?_)
          unfold OpOk
          go_simp
          rw [HR.out]
          exact ⟨hr, _, _, _, rfl, by omega, by omega, by omega, by omega, by omega, by omega⟩
        refine steps_cons (Gr.refl) (fun ev xw hb hc hf hfr hd hr => ?_) ?_
        · clear hfr hd
          have hsz := hb.size
          show OpOk _ _ ev xw fun v w' => (Gr g) xw w' ∧ ∃ gp : Nat, v = .pointer (some ⟨gp, 0, none⟩) ∧ W1.heap.size ≤ gp ∧ Blk w' gp 51 #[.int .i64 0, .int .i64 0, .int .i64 0, .int .i64 0, .int .i64 0, .int .i64 0, .int .i64 0, .int .i64 0]
          refine opOk_hid (fun Rp HR => ?_)
          unfold OpOk
          go_simp
          rw [HR.out]
          exact ⟨Gr.of_below (lat_alloc (Below.refl _ _) _), _, rfl, hsz, Blk.new⟩
        exact steps_nil
      · intro vs W2 hb2 hk
        obtain ⟨mn, yl, rd, k36, h36⟩ : ∃ x y z : Int, vs 10 = .agg #[.int .i64 sa, .int .i64 sb, .int .i64 x, .int .i64 0, .int .i64 y, .int .i64 z, .int .i64 0, .int .i64 0] ∧ 1 ≤ x ∧ x ≤ 3 ∧ 1 ≤ y ∧ y ≤ 2 ∧ 0 ≤ z ∧ z ≤ 2 := hk 10 (by omega)
        obtain ⟨gp, k7, hgp, Bp⟩ : ∃ gp : Nat, vs 11 = .pointer (some ⟨gp, 0, none⟩) ∧ W1.heap.size ≤ gp ∧ Blk W2 gp 51 #[.int .i64 0, .int .i64 0, .int .i64 0, .int .i64 0, .int .i64 0, .int .i64 0, .int .i64 0, .int .i64 0] := hk 11 (by omega)
        clear hk
        simp only [List.take_succ_cons, List.take_zero, List.drop_succ_cons, List.drop_zero, putAll, Act.put, List.setIfInBounds_toArray, List.set_cons_zero, List.set_cons_succ, k36, k7, Nat.reduceAdd]
        clear k36 k7
        have hR2 := hR1.move hg hRc hAl hb2
        have o0 := Bp.at 0 rfl
        have o1 := Bp.at 1 rfl
        have o2 := Bp.at 2 rfl
        have o3 := Bp.at 3 rfl
        have o4 := Bp.at 4 rfl
        have o5 := Bp.at 5 rfl
        have o6 := Bp.at 6 rfl
        have o7 := Bp.at 7 rfl
        have f0 := Bp.frozen 0
        have f1 := Bp.frozen 1
        have f2 := Bp.frozen 2
        have f3 := Bp.frozen 3
        have f4 := Bp.frozen 4
        have f5 := Bp.frozen 5
        have f6 := Bp.frozen 6
        have f7 := Bp.frozen 7
        go_wp2_with fail
        clear o0 o1 o2 o3 o4 o5 o6 o7 f0 f1 f2 f3 f4 f5 f6 f7
        have Bq := Bp.set8 (.int .i64 sa) (.int .i64 sb) (.int .i64 mn) (.int .i64 0) (.int .i64 yl) (.int .i64 rd) (.int .i64 0) (.int .i64 0)
        have hg8 := grown8 W2 gp (.int .i64 sa) (.int .i64 sb) (.int .i64 mn) (.int .i64 0) (.int .i64 yl) (.int .i64 rd) (.int .i64 0) (.int .i64 0)
        have hR3 := hR2.fresh (B := W1.heap.size) hg hRc (by omega) hgp hAl (fun b hb => by have := hvW b hb; omega) hg8
        clear hR2 hR1 Bp
        generalize (((((((W2.setCell ⟨gp, 0, none⟩ (.int .i64 sa)).setCell ⟨gp, 1, none⟩ (.int .i64 sb)).setCell ⟨gp, 2, none⟩ (.int .i64 mn)).setCell ⟨gp, 3, none⟩ (.int .i64 0)).setCell ⟨gp, 4, none⟩ (.int .i64 yl)).setCell ⟨gp, 5, none⟩ (.int .i64 rd)).setCell ⟨gp, 6, none⟩ (.int .i64 0)).setCell ⟨gp, 7, none⟩ (.int .i64 0) = W3 at *
        refine (next_ok g 3 W3 hR3.dk (by omega) (by omega)).mono ?_
        rintro e W4 ⟨hg4w, _, x, x0, x1, rfl⟩
        have hR4 := hR3.move hg hRc hAl hg4w
        have B4 := hg4w.blk Bq (by omega)
        have hszz := hg8.size
        have hsz4 := hg4w.size
        have hgp4 : gp < W4.heap.size := B4.lt
        clear hR3 Bq
        by_cases hx : x = 2
        · have z : (x == 2) = true := by simpa using hx
          clear hx
          go_wp2_with fail
          refine (range_ok g 1 2 W4 hR4.dk (by omega) (by omega) (by omega)).mono ?_
          rintro e W5 ⟨hg5w, hdk5, wk, wk0, wk1, rfl⟩
          go_wp2_with fail
          refine (range_ok g 1 2 W5 hdk5 (by omega) (by omega) (by omega)).mono ?_
          rintro e W6 ⟨hg6w, hdk6, cl, cl0, cl1, rfl⟩
          have hR6 := hR4.move hg hRc hAl (hg5w.trans hg6w)
          have B6' := (hg5w.trans hg6w).blk B4 (by omega)
          have o0 := B6'.at 0 rfl
          have o1 := B6'.at 1 rfl
          have o2 := B6'.at 2 rfl
          have o3 := B6'.at 3 rfl
          have o4 := B6'.at 4 rfl
          have o5 := B6'.at 5 rfl
          have o6 := B6'.at 6 rfl
          have o7 := B6'.at 7 rfl
          have f6 := B6'.frozen 6
          have f7 := B6'.frozen 7
          go_wp2_with fail
          clear o0 o1 o2 o3 o4 o5 o6 o7 f6 f7
          have hgg := grown2 (World.grownBy.refl W6 (some gp)) 6 7 (.int .i64 wk) (.int .i64 cl)
          have hR7 := hR6.fresh (B := W1.heap.size) hg hRc (by omega) hgp hAl (fun b hb => by have := hvW b hb; omega) hgg
          have B7 := (B6'.set_ 6 (.int .i64 wk)).set_ 7 (.int .i64 cl)
          have B7 : Blk ((W6.setCell ⟨gp, 6, none⟩ (.int .i64 wk)).setCell ⟨gp, 7, none⟩ (.int .i64 cl)) gp 51 #[.int .i64 sa, .int .i64 sb, .int .i64 mn, .int .i64 0, .int .i64 yl, .int .i64 rd, .int .i64 wk, .int .i64 cl] := B7
          have hwk : (wk = 0 ∧ cl = 0) ∨ (1 ≤ wk ∧ wk ≤ 2 ∧ 1 ≤ cl ∧ cl ≤ 2) := .inr ⟨wk0, wk1, cl0, cl1⟩
          have hwkb : 0 ≤ wk ∧ wk ≤ 2 ∧ 0 ≤ cl ∧ cl ≤ 2 := by omega
          generalize (W6.setCell ⟨gp, 6, none⟩ (.int .i64 wk)).setCell ⟨gp, 7, none⟩ (.int .i64 cl) = W7 at *
          clear hR6 hR4 B6' B4
          refine wp_region_pre (R := (Gr g)) 12 125 [fun v _ => v = .pointer (some ⟨gp, 2, none⟩), fun v _ => v = .int .i64 mn, fun v _ => v = .pointer (some ⟨gp, 6, none⟩), fun v _ => v = .int .i64 wk, fun v _ => v = .pointer (some ⟨gp, 7, none⟩), fun v _ => v = .int .i64 cl, fun v w => ∃ m : Int, v = .int .i64 m ∧ m = wk + cl, fun v w => ∃ m : Int, v = .int .i64 m ∧ mn ≤ m ∧ wk + cl ≤ m ∧ m ≤ 4, fun v _ => v = .pointer (some ⟨g, 0, none⟩), fun v w => ∃ x : Int, v = .int .i64 x ∧ 0 ≤ x ∧ x ≤ 3, fun v w => ∃ m : Int, v = .int .i64 m ∧ mn ≤ m ∧ wk + cl ≤ m ∧ m ≤ 7, fun v _ => v = .pointer (some ⟨gp, 3, none⟩)] (Gr.trans) (Gr.drew) (by kernel_rfl) (fun _ _ d _ _ h => by cases d <;> exact h) rfl (by kernel_rfl) (stay_cons (stays_v _) (stay_cons (stays_v _) (stay_cons (stays_v _) (stay_cons (stays_v _) (stay_cons (stays_v _) (stay_cons (stays_v _) (stay_cons (fun _ _ _ h _ => h) (stay_cons (fun _ _ _ h _ => h) (stay_cons (stays_v _) (stay_cons (fun _ _ _ h _ => h) (stay_cons (fun _ _ _ h _ => h) (stay_cons (stays_v _) (stay_nil))))))))))))) ?_ ?_
          · simp only [List.take_succ_cons, List.take_zero]
            refine steps_cons (Gr.refl) (fun ev xw hb hc hf hfr hd hr => ?_) ?_
            · have e7 : ev (.tmp 7) = .pointer (some ⟨gp, 0, none⟩) := hfr 7 (by kernel_rfl)
              clear hfr hd
              show OpOk _ _ ev xw fun v w' => (Gr g) xw w' ∧ v = .pointer (some ⟨gp, 2, none⟩)
              refine opOk_hid (fun Rp HR => ?_)
              unfold OpOk
              go_simp
              rw [HR.out]
              exact ⟨hr, rfl⟩
            refine steps_cons (Gr.refl) (fun ev xw hb hc hf hfr hd hr => ?_) ?_
            · have e46 : ev (.tmp 46) = .pointer (some ⟨gp, 2, none⟩) := hd 0 46 (by kernel_rfl)
              clear hfr hd
              have kk := (hb.blk B7 (by omega)).at 2 rfl
              show OpOk _ _ ev xw fun v w' => (Gr g) xw w' ∧ v = .int .i64 mn
              refine opOk_hid (fun Rp HR => ?_)
              unfold OpOk
              go_simp
              rw [HR.out]
              exact ⟨hr, rfl⟩
            refine steps_cons (Gr.refl) (fun ev xw hb hc hf hfr hd hr => ?_) ?_
            · have e7 : ev (.tmp 7) = .pointer (some ⟨gp, 0, none⟩) := hfr 7 (by kernel_rfl)
              clear hfr hd
              show OpOk _ _ ev xw fun v w' => (Gr g) xw w' ∧ v = .pointer (some ⟨gp, 6, none⟩)
              refine opOk_hid (fun Rp HR => ?_)
              unfold OpOk
              go_simp
              rw [HR.out]
              exact ⟨hr, rfl⟩
            refine steps_cons (Gr.refl) (fun ev xw hb hc hf hfr hd hr => ?_) ?_
            · have e48 : ev (.tmp 48) = .pointer (some ⟨gp, 6, none⟩) := hd 2 48 (by kernel_rfl)
              clear hfr hd
              have kk := (hb.blk B7 (by omega)).at 6 rfl
              show OpOk _ _ ev xw fun v w' => (Gr g) xw w' ∧ v = .int .i64 wk
              refine opOk_hid (fun Rp HR => ?_)
              unfold OpOk
              go_simp
              rw [HR.out]
              exact ⟨hr, rfl⟩
            refine steps_cons (Gr.refl) (fun ev xw hb hc hf hfr hd hr => ?_) ?_
            · have e7 : ev (.tmp 7) = .pointer (some ⟨gp, 0, none⟩) := hfr 7 (by kernel_rfl)
              clear hfr hd
              show OpOk _ _ ev xw fun v w' => (Gr g) xw w' ∧ v = .pointer (some ⟨gp, 7, none⟩)
              refine opOk_hid (fun Rp HR => ?_)
              unfold OpOk
              go_simp
              rw [HR.out]
              exact ⟨hr, rfl⟩
            refine steps_cons (Gr.refl) (fun ev xw hb hc hf hfr hd hr => ?_) ?_
            · have e50 : ev (.tmp 50) = .pointer (some ⟨gp, 7, none⟩) := hd 4 50 (by kernel_rfl)
              clear hfr hd
              have kk := (hb.blk B7 (by omega)).at 7 rfl
              show OpOk _ _ ev xw fun v w' => (Gr g) xw w' ∧ v = .int .i64 cl
              refine opOk_hid (fun Rp HR => ?_)
              unfold OpOk
              go_simp
              rw [HR.out]
              exact ⟨hr, rfl⟩
            refine steps_cons (Gr.refl) (fun ev xw hb hc hf hfr hd hr => ?_) ?_
            · have e49 : ev (.tmp 49) = .int .i64 wk := hd 3 49 (by kernel_rfl)
              have e51 : ev (.tmp 51) = .int .i64 cl := hd 5 51 (by kernel_rfl)
              clear hfr hd
              have hw : IntKind.i64.wrap (wk + cl) = wk + cl := by rw [IntKind.wrap_i64]; omega
              show OpOk _ _ ev xw fun v w' => (Gr g) xw w' ∧ ∃ m : Int, v = .int .i64 m ∧ m = wk + cl
              refine opOk_hid (fun Rp HR => ?_)
              unfold OpOk
              go_simp
              rw [HR.out]
              exact ⟨hr, _, rfl, by first | rfl | omega⟩
            refine steps_cons (Gr.refl) (fun ev xw hb hc hf hfr hd hr => ?_) ?_
            · have e47 : ev (.tmp 47) = .int .i64 mn := hd 1 47 (by kernel_rfl)
              obtain ⟨x52, e52, y52⟩ : ∃ m : Int, ev (.tmp 52) = .int .i64 m ∧ m = wk + cl := hd 6 52 (by kernel_rfl)
              clear hfr hd
              show OpOk _ _ ev xw fun v w' => (Gr g) xw w' ∧ ∃ m : Int, v = .int .i64 m ∧ mn ≤ m ∧ wk + cl ≤ m ∧ m ≤ 4
              refine opOk_hid (fun Rp HR => ?_)
              unfold OpOk
              go_simp
              rw [HR.out]
              exact ⟨hr, _, rfl, by split <;> omega, by split <;> omega, by split <;> omega⟩
            refine steps_cons (Gr.refl) (fun ev xw hb hc hf hfr hd hr => ?_) ?_
            · have e0 : ev (.tmp 0) = .pointer (some ⟨g, 0, none⟩) := hfr 0 (by kernel_rfl)
              clear hfr hd
              show OpOk _ _ ev xw fun v w' => (Gr g) xw w' ∧ v = .pointer (some ⟨g, 0, none⟩)
              refine opOk_hid (fun Rp HR => ?_)
              unfold OpOk
              go_simp
              rw [HR.out]
              exact ⟨hr, rfl⟩
            refine steps_cons (Gr.refl) (fun ev xw hb hc hf hfr hd hr => ?_) ?_
            · have e54 : ev (.tmp 54) = .pointer (some ⟨g, 0, none⟩) := hd 8 54 (by kernel_rfl)
              clear hfr hd
              show OpOk _ _ ev xw fun v w' => (Gr g) xw w' ∧ ∃ x : Int, v = .int .i64 x ∧ 0 ≤ x ∧ x ≤ 3
              refine opOk_hid (fun Rp HR => ?_)
              unfold OpOk
              go_simp
              refine (next_ok g 4 xw (hb.2 hR7.dk) (by omega) (by omega)).mono ?_
              rintro e w'' ⟨hgr, hdk', x, h0, h1, rfl⟩
              refine ⟨_, rfl, ?_⟩
              rw [HR.out]
              exact ⟨hgr, x, rfl, by omega, by omega⟩
            refine steps_cons (Gr.refl) (fun ev xw hb hc hf hfr hd hr => ?_) ?_
            · obtain ⟨x53, e53, y53, z53, u53⟩ : ∃ m : Int, ev (.tmp 53) = .int .i64 m ∧ mn ≤ m ∧ wk + cl ≤ m ∧ m ≤ 4 := hd 7 53 (by kernel_rfl)
              obtain ⟨x55, e55, y55, z55⟩ : ∃ x : Int, ev (.tmp 55) = .int .i64 x ∧ 0 ≤ x ∧ x ≤ 3 := hd 9 55 (by kernel_rfl)
              clear hfr hd
              have hw : IntKind.i64.wrap (x53 + x55) = x53 + x55 := by rw [IntKind.wrap_i64]; omega
              show OpOk _ _ ev xw fun v w' => (Gr g) xw w' ∧ ∃ m : Int, v = .int .i64 m ∧ mn ≤ m ∧ wk + cl ≤ m ∧ m ≤ 7
              refine opOk_hid (fun Rp HR => ?_)
              unfold OpOk
              go_simp
              rw [HR.out]
              exact ⟨hr, _, rfl, by omega, by omega, by omega⟩
            refine steps_cons (Gr.refl) (fun ev xw hb hc hf hfr hd hr => ?_) ?_
            · have e7 : ev (.tmp 7) = .pointer (some ⟨gp, 0, none⟩) := hfr 7 (by kernel_rfl)
              clear hfr hd
              show OpOk _ _ ev xw fun v w' => (Gr g) xw w' ∧ v = .pointer (some ⟨gp, 3, none⟩)
              refine opOk_hid (fun Rp HR => ?_)
              unfold OpOk
              go_simp
              rw [HR.out]
              exact ⟨hr, rfl⟩
            exact steps_nil
          · intro vs W8 hb8 hk
            obtain ⟨mx, k56, y56, z56, u56⟩ : ∃ m : Int, vs 10 = .int .i64 m ∧ mn ≤ m ∧ wk + cl ≤ m ∧ m ≤ 7 := hk 10 (by omega)
            have k57 : vs 11 = .pointer (some ⟨gp, 3, none⟩) := hk 11 (by omega)
            clear hk
            simp only [List.take_succ_cons, List.take_zero, List.drop_succ_cons, List.drop_zero, putAll, Act.put, List.setIfInBounds_toArray, List.set_cons_zero, List.set_cons_succ, k56, k57, Nat.reduceAdd]
            clear k56 k57
            have hR8 := hR7.move hg hRc hAl hb8
            have B8 := hb8.blk B7 (by omega)
            have hgp8 : gp < W8.heap.size := B8.lt
            have hR9 := hR8.fresh (B := W1.heap.size) hg hRc (by omega) hgp hAl (fun b hb => by have := hvW b hb; omega) (grownBy_set W8 gp 3 (.int .i64 mx))
            have B9 : Blk (W8.setCell ⟨gp, 3, none⟩ (.int .i64 mx)) gp 51 #[.int .i64 sa, .int .i64 sb, .int .i64 mn, .int .i64 mx, .int .i64 yl, .int .i64 rd, .int .i64 wk, .int .i64 cl] := B8.set_ 3 (.int .i64 mx)
            have o0 := B8.at 0 rfl
            have o1 := B8.at 1 rfl
            have o2 := B8.at 2 rfl
            have o3 := B8.at 3 rfl
            have o4 := B8.at 4 rfl
            have o5 := B8.at 5 rfl
            have o6 := B8.at 6 rfl
            have o7 := B8.at 7 rfl
            have f3 := B8.frozen 3
            obtain ⟨j0, j1, j2, jf0, jf1, jf2⟩ := hR8.jn.three
            have hne4 : g4 ≠ gp := by omega
            clear hR7 hR8 B7
            have hR10 := hR9.move hg hRc hAl (Gr.of_below (lat_alloc (Below.refl (W8.setCell ⟨gp, 3, none⟩ (.int .i64 mx)).heap.size (W8.setCell ⟨gp, 3, none⟩ (.int .i64 mx))) (.cells #[.int .i64 sa, .int .i64 sb, .int .i64 mn, .int .i64 mx, .int .i64 yl, .int .i64 rd, .int .i64 wk, .int .i64 cl] 51)))
            obtain ⟨l0, l1, l2, lf0, lf1, lf2⟩ := hR10.jn.three
            have hPl : P.length ≤ 1000 := by have := hR10.len; omega
            have hs9 := hR10.jn.lt
            have hBn := Blk.new (w := W8.setCell ⟨gp, 3, none⟩ (.int .i64 mx)) (t := 51) (cs := #[.int .i64 sa, .int .i64 sb, .int .i64 mn, .int .i64 mx, .int .i64 yl, .int .i64 rd, .int .i64 wk, .int .i64 cl])
            rw [size_set] at hBn
            have hown10 := hR10.own
            go_wp2_with (at_builtin; refine wpList_append_one rfl (.tmp 59) (.tmp 61) _ rfl (g4 + 1) 51 _ 8 64 Try.underlying28 phase_info rfl (by omega) vP P.length _ rfl hown10 W8.heap.size 1 51 _ rfl rfl hBn (by simp [Value.oneCell']) (by omega) (by omega) (by omega) ?_; intro g11 c11 w11 own11 hg11 a11 hb11; have J11 := (hR10.jn.grown hg11 (fun e => by have := (row_lt hown10 e).1; omega)).three)
            have hR12 := hR10.push (v' := .slice (some ⟨g11, 0, none⟩) (P.length + 1) c11) (p := (⟨sa, sb, mn, mx, yl, rd, wk, cl⟩ : Ph)) hg hRc hAl hg11 own11 ⟨⟨by dsimp only; omega, by dsimp only; omega⟩, ⟨by dsimp only; omega, by dsimp only; omega⟩, ⟨by dsimp only; omega, by dsimp only; omega⟩, hwk, ⟨by simpa using y56, by simpa using z56, by simpa using u56⟩⟩ ⟨hsa.symm, hsb.symm⟩
            go_roundw
            case rel => exact ⟨i + 1, _, _, by go_num, by omega, hR12⟩
            case measure => simp [intOf]; omega
        · have z : (x == 2) = false := by simpa using hx
          clear hx
          go_wp2_with fail
          have hR7 := hR4
          have B7 := B4
          clear hR4 B4
          refine wp_region_pre (R := (Gr g)) 12 125 [fun v _ => v = .pointer (some ⟨gp, 2, none⟩), fun v _ => v = .int .i64 mn, fun v _ => v = .pointer (some ⟨gp, 6, none⟩), fun v _ => v = .int .i64 0, fun v _ => v = .pointer (some ⟨gp, 7, none⟩), fun v _ => v = .int .i64 0, fun v w => ∃ m : Int, v = .int .i64 m ∧ m = 0 + 0, fun v w => ∃ m : Int, v = .int .i64 m ∧ mn ≤ m ∧ 0 + 0 ≤ m ∧ m ≤ 4, fun v _ => v = .pointer (some ⟨g, 0, none⟩), fun v w => ∃ x : Int, v = .int .i64 x ∧ 0 ≤ x ∧ x ≤ 3, fun v w => ∃ m : Int, v = .int .i64 m ∧ mn ≤ m ∧ 0 + 0 ≤ m ∧ m ≤ 7, fun v _ => v = .pointer (some ⟨gp, 3, none⟩)] (Gr.trans) (Gr.drew) (by kernel_rfl) (fun _ _ d _ _ h => by cases d <;> exact h) rfl (by kernel_rfl) (stay_cons (stays_v _) (stay_cons (stays_v _) (stay_cons (stays_v _) (stay_cons (stays_v _) (stay_cons (stays_v _) (stay_cons (stays_v _) (stay_cons (fun _ _ _ h _ => h) (stay_cons (fun _ _ _ h _ => h) (stay_cons (stays_v _) (stay_cons (fun _ _ _ h _ => h) (stay_cons (fun _ _ _ h _ => h) (stay_cons (stays_v _) (stay_nil))))))))))))) ?_ ?_
          · simp only [List.take_succ_cons, List.take_zero]
            refine steps_cons (Gr.refl) (fun ev xw hb hc hf hfr hd hr => ?_) ?_
            · have e7 : ev (.tmp 7) = .pointer (some ⟨gp, 0, none⟩) := hfr 7 (by kernel_rfl)
              clear hfr hd
              show OpOk _ _ ev xw fun v w' => (Gr g) xw w' ∧ v = .pointer (some ⟨gp, 2, none⟩)
              refine opOk_hid (fun Rp HR => ?_)
              unfold OpOk
              go_simp
              rw [HR.out]
              exact ⟨hr, rfl⟩
            refine steps_cons (Gr.refl) (fun ev xw hb hc hf hfr hd hr => ?_) ?_
            · have e46 : ev (.tmp 46) = .pointer (some ⟨gp, 2, none⟩) := hd 0 46 (by kernel_rfl)
              clear hfr hd
              have kk := (hb.blk B7 (by omega)).at 2 rfl
              show OpOk _ _ ev xw fun v w' => (Gr g) xw w' ∧ v = .int .i64 mn
              refine opOk_hid (fun Rp HR => ?_)
              unfold OpOk
              go_simp
              rw [HR.out]
              exact ⟨hr, rfl⟩
            refine steps_cons (Gr.refl) (fun ev xw hb hc hf hfr hd hr => ?_) ?_
            · have e7 : ev (.tmp 7) = .pointer (some ⟨gp, 0, none⟩) := hfr 7 (by kernel_rfl)
              clear hfr hd
              show OpOk _ _ ev xw fun v w' => (Gr g) xw w' ∧ v = .pointer (some ⟨gp, 6, none⟩)
              refine opOk_hid (fun Rp HR => ?_)
              unfold OpOk
              go_simp
              rw [HR.out]
              exact ⟨hr, rfl⟩
            refine steps_cons (Gr.refl) (fun ev xw hb hc hf hfr hd hr => ?_) ?_
            · have e48 : ev (.tmp 48) = .pointer (some ⟨gp, 6, none⟩) := hd 2 48 (by kernel_rfl)
              clear hfr hd
              have kk := (hb.blk B7 (by omega)).at 6 rfl
              show OpOk _ _ ev xw fun v w' => (Gr g) xw w' ∧ v = .int .i64 0
              refine opOk_hid (fun Rp HR => ?_)
              unfold OpOk
              go_simp
              rw [HR.out]
              exact ⟨hr, rfl⟩
            refine steps_cons (Gr.refl) (fun ev xw hb hc hf hfr hd hr => ?_) ?_
            · have e7 : ev (.tmp 7) = .pointer (some ⟨gp, 0, none⟩) := hfr 7 (by kernel_rfl)
              clear hfr hd
              show OpOk _ _ ev xw fun v w' => (Gr g) xw w' ∧ v = .pointer (some ⟨gp, 7, none⟩)
              refine opOk_hid (fun Rp HR => ?_)
              unfold OpOk
              go_simp
              rw [HR.out]
              exact ⟨hr, rfl⟩
            refine steps_cons (Gr.refl) (fun ev xw hb hc hf hfr hd hr => ?_) ?_
            · have e50 : ev (.tmp 50) = .pointer (some ⟨gp, 7, none⟩) := hd 4 50 (by kernel_rfl)
              clear hfr hd
              have kk := (hb.blk B7 (by omega)).at 7 rfl
              show OpOk _ _ ev xw fun v w' => (Gr g) xw w' ∧ v = .int .i64 0
              refine opOk_hid (fun Rp HR => ?_)
              unfold OpOk
              go_simp
              rw [HR.out]
              exact ⟨hr, rfl⟩
            refine steps_cons (Gr.refl) (fun ev xw hb hc hf hfr hd hr => ?_) ?_
            · have e49 : ev (.tmp 49) = .int .i64 0 := hd 3 49 (by kernel_rfl)
              have e51 : ev (.tmp 51) = .int .i64 0 := hd 5 51 (by kernel_rfl)
              clear hfr hd
              have hw : IntKind.i64.wrap (0 + 0) = 0 + 0 := by rw [IntKind.wrap_i64]; omega
              show OpOk _ _ ev xw fun v w' => (Gr g) xw w' ∧ ∃ m : Int, v = .int .i64 m ∧ m = 0 + 0
              refine opOk_hid (fun Rp HR => ?_)
              unfold OpOk
              go_simp
              rw [HR.out]
              exact ⟨hr, _, rfl, by first | rfl | omega⟩
            refine steps_cons (Gr.refl) (fun ev xw hb hc hf hfr hd hr => ?_) ?_
            · have e47 : ev (.tmp 47) = .int .i64 mn := hd 1 47 (by kernel_rfl)
              obtain ⟨x52, e52, y52⟩ : ∃ m : Int, ev (.tmp 52) = .int .i64 m ∧ m = 0 + 0 := hd 6 52 (by kernel_rfl)
              clear hfr hd
              show OpOk _ _ ev xw fun v w' => (Gr g) xw w' ∧ ∃ m : Int, v = .int .i64 m ∧ mn ≤ m ∧ 0 + 0 ≤ m ∧ m ≤ 4
              refine opOk_hid (fun Rp HR => ?_)
              unfold OpOk
              go_simp
              rw [HR.out]
              exact ⟨hr, _, rfl, by split <;> omega, by split <;> omega, by split <;> omega⟩
            refine steps_cons (Gr.refl) (fun ev xw hb hc hf hfr hd hr => ?_) ?_
            · have e0 : ev (.tmp 0) = .pointer (some ⟨g, 0, none⟩) := hfr 0 (by kernel_rfl)
              clear hfr hd
              show OpOk _ _ ev xw fun v w' => (Gr g) xw w' ∧ v = .pointer (some ⟨g, 0, none⟩)
              refine opOk_hid (fun Rp HR => ?_)
              unfold OpOk
              go_simp
              rw [HR.out]
              exact ⟨hr, rfl⟩
            refine steps_cons (Gr.refl) (fun ev xw hb hc hf hfr hd hr => ?_) ?_
            · have e54 : ev (.tmp 54) = .pointer (some ⟨g, 0, none⟩) := hd 8 54 (by kernel_rfl)
              clear hfr hd
              show OpOk _ _ ev xw fun v w' => (Gr g) xw w' ∧ ∃ x : Int, v = .int .i64 x ∧ 0 ≤ x ∧ x ≤ 3
              refine opOk_hid (fun Rp HR => ?_)
              unfold OpOk
              go_simp
              refine (next_ok g 4 xw (hb.2 hR7.dk) (by omega) (by omega)).mono ?_
              rintro e w'' ⟨hgr, hdk', x, h0, h1, rfl⟩
              refine ⟨_, rfl, ?_⟩
              rw [HR.out]
              exact ⟨hgr, x, rfl, by omega, by omega⟩
            refine steps_cons (Gr.refl) (fun ev xw hb hc hf hfr hd hr => ?_) ?_
            · obtain ⟨x53, e53, y53, z53, u53⟩ : ∃ m : Int, ev (.tmp 53) = .int .i64 m ∧ mn ≤ m ∧ 0 + 0 ≤ m ∧ m ≤ 4 := hd 7 53 (by kernel_rfl)
              obtain ⟨x55, e55, y55, z55⟩ : ∃ x : Int, ev (.tmp 55) = .int .i64 x ∧ 0 ≤ x ∧ x ≤ 3 := hd 9 55 (by kernel_rfl)
              clear hfr hd
              have hw : IntKind.i64.wrap (x53 + x55) = x53 + x55 := by rw [IntKind.wrap_i64]; omega
              show OpOk _ _ ev xw fun v w' => (Gr g) xw w' ∧ ∃ m : Int, v = .int .i64 m ∧ mn ≤ m ∧ 0 + 0 ≤ m ∧ m ≤ 7
              refine opOk_hid (fun Rp HR => ?_)
              unfold OpOk
              go_simp
              rw [HR.out]
              exact ⟨hr, _, rfl, by omega, by omega, by omega⟩
            refine steps_cons (Gr.refl) (fun ev xw hb hc hf hfr hd hr => ?_) ?_
            · have e7 : ev (.tmp 7) = .pointer (some ⟨gp, 0, none⟩) := hfr 7 (by kernel_rfl)
              clear hfr hd
              show OpOk _ _ ev xw fun v w' => (Gr g) xw w' ∧ v = .pointer (some ⟨gp, 3, none⟩)
              refine opOk_hid (fun Rp HR => ?_)
              unfold OpOk
              go_simp
              rw [HR.out]
              exact ⟨hr, rfl⟩
            exact steps_nil
          · intro vs W8 hb8 hk
            obtain ⟨mx, k56, y56, z56, u56⟩ : ∃ m : Int, vs 10 = .int .i64 m ∧ mn ≤ m ∧ 0 + 0 ≤ m ∧ m ≤ 7 := hk 10 (by omega)
            have k57 : vs 11 = .pointer (some ⟨gp, 3, none⟩) := hk 11 (by omega)
            clear hk
            simp only [List.take_succ_cons, List.take_zero, List.drop_succ_cons, List.drop_zero, putAll, Act.put, List.setIfInBounds_toArray, List.set_cons_zero, List.set_cons_succ, k56, k57, Nat.reduceAdd]
            clear k56 k57
            have hR8 := hR7.move hg hRc hAl hb8
            have B8 := hb8.blk B7 (by omega)
            have hgp8 : gp < W8.heap.size := B8.lt
            have hR9 := hR8.fresh (B := W1.heap.size) hg hRc (by omega) hgp hAl (fun b hb => by have := hvW b hb; omega) (grownBy_set W8 gp 3 (.int .i64 mx))
            have B9 : Blk (W8.setCell ⟨gp, 3, none⟩ (.int .i64 mx)) gp 51 #[.int .i64 sa, .int .i64 sb, .int .i64 mn, .int .i64 mx, .int .i64 yl, .int .i64 rd, .int .i64 0, .int .i64 0] := B8.set_ 3 (.int .i64 mx)
            have o0 := B8.at 0 rfl
            have o1 := B8.at 1 rfl
            have o2 := B8.at 2 rfl
            have o3 := B8.at 3 rfl
            have o4 := B8.at 4 rfl
            have o5 := B8.at 5 rfl
            have o6 := B8.at 6 rfl
            have o7 := B8.at 7 rfl
            have f3 := B8.frozen 3
            obtain ⟨j0, j1, j2, jf0, jf1, jf2⟩ := hR8.jn.three
            have hne4 : g4 ≠ gp := by omega
            clear hR7 hR8 B7
            have hR10 := hR9.move hg hRc hAl (Gr.of_below (lat_alloc (Below.refl (W8.setCell ⟨gp, 3, none⟩ (.int .i64 mx)).heap.size (W8.setCell ⟨gp, 3, none⟩ (.int .i64 mx))) (.cells #[.int .i64 sa, .int .i64 sb, .int .i64 mn, .int .i64 mx, .int .i64 yl, .int .i64 rd, .int .i64 0, .int .i64 0] 51)))
            obtain ⟨l0, l1, l2, lf0, lf1, lf2⟩ := hR10.jn.three
            have hPl : P.length ≤ 1000 := by have := hR10.len; omega
            have hs9 := hR10.jn.lt
            have hBn := Blk.new (w := W8.setCell ⟨gp, 3, none⟩ (.int .i64 mx)) (t := 51) (cs := #[.int .i64 sa, .int .i64 sb, .int .i64 mn, .int .i64 mx, .int .i64 yl, .int .i64 rd, .int .i64 0, .int .i64 0])
            rw [size_set] at hBn
            have hown10 := hR10.own
            go_wp2_with (at_builtin; refine wpList_append_one rfl (.tmp 59) (.tmp 61) _ rfl (g4 + 1) 51 _ 8 64 Try.underlying28 phase_info rfl (by omega) vP P.length _ rfl hown10 W8.heap.size 1 51 _ rfl rfl hBn (by simp [Value.oneCell']) (by omega) (by omega) (by omega) ?_; intro g11 c11 w11 own11 hg11 a11 hb11; have J11 := (hR10.jn.grown hg11 (fun e => by have := (row_lt hown10 e).1; omega)).three)
            have hR12 := hR10.push (v' := .slice (some ⟨g11, 0, none⟩) (P.length + 1) c11) (p := (⟨sa, sb, mn, mx, yl, rd, 0, 0⟩ : Ph)) hg hRc hAl hg11 own11 ⟨⟨by dsimp only; omega, by dsimp only; omega⟩, ⟨by dsimp only; omega, by dsimp only; omega⟩, ⟨by dsimp only; omega, by dsimp only; omega⟩, .inl ⟨rfl, rfl⟩, ⟨by simpa using y56, by simpa using z56, by simpa using u56⟩⟩ ⟨hsa.symm, hsb.symm⟩
            go_roundw
            case rel => exact ⟨i + 1, _, _, by go_num, by omega, hR12⟩
            case measure => simp [intOf]; omega
        
    · have hiS : i = S.length := by omega
      subst hiS
      obtain ⟨PA, pc, hvP, hPh, hPA, hPc⟩ := row_phs hR.own
      have HPc := Lib.hid hPc
      clear hPc
      subst hvP
      have HPN := Lib.hid hR.len
      have hn1 : 1 ≤ P.length := by have := HPN.out; omega
      have hn8 : P.length ≤ 8 := by have := HPN.out; omega
      obtain ⟨j0, j1, j2, jf0, jf1, jf2⟩ := hR.jn.three
      go_wp2_with fail
      refine (next_ok g 4 wr hR.dk (by omega) (by omega)).mono ?_
      rintro e V ⟨hgv, hdv, x, x0, x1, rfl⟩
      have hRV := hR.move hg hRc hAl hgv
      have hPhV : Phs V V.heap.size PA P := hPh.keep hgv.size (fun a ha hB => hgv.1.block _ hB (fun e => by injection e with e; have := hPA a ha; omega))
      have hPAV : ∀ a, PA = some a → a.block < V.heap.size := fun a ha => by
        obtain ⟨b', off', hA', hB', _⟩ := hPhV (by omega)
        rw [ha] at hA'
        injection hA' with hA'
        subst hA'
        exact hB'
      clear j0 j1 j2 jf0 jf1 jf2 hPh hR
      by_cases hx3 : x = 3
      · have z3 : (x == 3) = true := by simp [hx3]
        clear hx3
        obtain ⟨v0, v1, v2, vf0, vf1, vf2⟩ := hRV.jn.three
        have hgV := hdv.lt
        have hg4V := hRV.jn.lt
        go_wp2_with fail
        clear v0 v1 v2 vf0 vf1 vf2
        go_loopw [71] (fun v wr => ∃ (i : Nat) (vC : Value), v = .int .i64 i ∧ i ≤ P.length ∧ V.grownBy wr (some g4) ∧ Blk wr g4 30 #[.slice PA P.length pc, vC, .int .i64 st] ∧ Own .i64 3 wr V.heap.size vC ((List.range i).map fun j => (rowV P true j P.length : Int))) (fun v _ => P.length - (intOf v).toNat)
        case atStart => exact ⟨0, _, rfl, by omega, .refl _ _, hRV.jn, Own.nil_ _ _ _ _⟩
        case round =>
          obtain ⟨i, vC, rfl, hi, hgw, hJw, hoC⟩ := hrel
          obtain ⟨v0, v1, v2, vf0, vf1, vf2⟩ := hJw.three
          by_cases hlt : i < P.length
          · have hlt' : (i : Int) < P.length := by omega
            obtain ⟨pb, po, rfl, hpB, hpi⟩ := hPhV.at hlt
            have hpne : pb ≠ g4 := by have := hPA _ rfl; simp at this; omega
            have hpw := hpi.block (hgw.block pb hpB (fun e => by injection e with e; omega))
            obtain ⟨q0', q1', q2', q3', q4', q5', q6', q7'⟩ := hpw
            generalize hpp : phAt P i = p at q0' q1' q2' q3' q4' q5' q6' q7'
            have HPP := Lib.hid hpp
            clear hpp
            have bU := lat_alloc (Below.refl wr.heap.size wr) (.cells #[.int .i64 p.ri, .int .i64 p.gr, .int .i64 p.mn, .int .i64 p.mx, .int .i64 p.yl, .int .i64 p.rd, .int .i64 p.wk, .int .i64 p.cl] 51)
            have hJU := hJw.below bU
            have B10 := Blk.new (w := wr) (t := 51) (cs := #[.int .i64 p.ri, .int .i64 p.gr, .int .i64 p.mn, .int .i64 p.mx, .int .i64 p.yl, .int .i64 p.rd, .int .i64 p.wk, .int .i64 p.cl])
            obtain ⟨l0, l1, l2, lf0, lf1, lf2⟩ := hJU.three
            have hgU := grown_more hgw (grown_of_below (row := none) bU) (fun j e => by cases e)
            have hoU := hoC.below bU
            go_wp2_with fail
            clear v0 v1 v2 vf0 vf1 vf2 l0 l1 l2 lf0 lf1 lf2 q0' q1' q2' q3' q4' q5' q6' q7'
            generalize wr.alloc (.cells #[.int .i64 p.ri, .int .i64 p.gr, .int .i64 p.mn, .int .i64 p.mx, .int .i64 p.yl, .int .i64 p.rd, .int .i64 p.wk, .int .i64 p.cl] 51) = U at *
            generalize wr.heap.size = g10 at *
            go_loopw [11, 79] (fun r v wr => ∃ k : Nat, k ≤ P.length ∧ v = .int .i64 k ∧ r = .int .i64 (rowV P true i k : Nat) ∧ Below U.heap.size U wr) (fun _ v _ => P.length - (intOf v).toNat)
            case atStart => exact ⟨0, by omega, rfl, rfl, Below.refl _ _⟩
            case round =>
              obtain ⟨k, hk, rfl, rfl, hbr⟩ := hrel
              by_cases hlk : k < P.length
              · have hlk' : (k : Int) < P.length := by omega
                obtain ⟨pb', po', hpa', hpB', hpk⟩ := hPhV.at hlk
                injection hpa' with hpa'
                injection hpa' with e1 e2 _
                subst e1 e2
                have hpkU := hpk.block (hgU.block pb hpB' (fun e => by injection e with e; omega))
                have hpkW := hpkU.block (hbr.block pb (Nat.lt_of_lt_of_le hpB' hgU.size))
                obtain ⟨q0', q1', q2', q3', q4', q5', q6', q7'⟩ := hpkW
                generalize hpz : phAt P k = z at q0' q1' q2' q3' q4' q5' q6' q7'
                have HPZ := Lib.hid hpz
                clear hpz
                have B10' := B10.below hbr
                have bZ := lat_alloc (Below.refl wr.heap.size wr) (.cells #[.int .i64 z.ri, .int .i64 z.gr, .int .i64 z.mn, .int .i64 z.mx, .int .i64 z.yl, .int .i64 z.rd, .int .i64 z.wk, .int .i64 z.cl] 51)
                have B10Z := B10'.below bZ
                have m0 := B10Z.at 0 rfl
                have m1 := B10Z.at 1 rfl
                have m2 := B10Z.at 2 rfl
                have m3 := B10Z.at 3 rfl
                have m4 := B10Z.at 4 rfl
                have m5 := B10Z.at 5 rfl
                have m6 := B10Z.at 6 rfl
                have m7 := B10Z.at 7 rfl
                have hbZ := hbr.trans (bZ.mono hbr.size)
                have hrl := rowV_lt P true i k
                have hp7 : (2 : Nat) ^ k ≤ 128 := by
                  have := Nat.pow_le_pow_right (n := 2) (by decide) (show k ≤ 7 by omega)
                  simpa using this
                by_cases hik : i = k
                · have t1 : ((i : Int) != k) = false := by simp [hik]
                  have t2 : (i != k) = false := by simp [hik]
                  have HC := Lib.hid (show confB P true i k = false by simp [confB, hik])
                  clear hik
                  have HN := Lib.hid (rowV_succ_no HC.out)
                  go_wp2
                  go_roundw
                  case rel => first | exact ⟨k + 1, by omega, by go_num, congrArg (Value.int .i64) HN.out, hbZ⟩ | exact ⟨_, _, _, _, ⟨k + 1, by omega, by go_num, congrArg (Value.int .i64) HN.out⟩, rfl, rfl, rfl, rfl⟩
                  case measure => simp [intOf]; omega
                · have t1 : ((i : Int) != k) = true := by simp; omega
                  have t2 : (i != k) = true := by simp [hik]
                  by_cases hr : p.ri = z.ri
                  · have t3 : (p.ri == z.ri) = true := by simp [hr]
                    have HC := Lib.hid (show confB P true i k = true by simp [confB, hik, HPP.out, HPZ.out, hr])
                    clear hik hr
                    have HY := Lib.hid (rowV_wrap HC.out (show k ≤ 7 by omega))
                    go_wp2
                    go_roundw
                    case rel => first | exact ⟨k + 1, by omega, by go_num, congrArg (Value.int .i64) HY.out, hbZ⟩ | exact ⟨_, _, _, _, ⟨k + 1, by omega, by go_num, congrArg (Value.int .i64) HY.out⟩, rfl, rfl, rfl, rfl⟩
                    case measure => simp [intOf]; omega
                  · have t3 : (p.ri == z.ri) = false := by simp [hr]
                    by_cases hgq : p.gr = z.gr
                    · have t4 : (p.gr != z.gr) = false := by simp [hgq]
                      by_cases hpar : (i + k) % 2 = 1
                      · have t5 : (((i : Int) + k) % 2 == 1) = true := by simp; omega
                        have HC := Lib.hid (show confB P true i k = true by simp [confB, hik, HPP.out, HPZ.out, hr, hgq, hpar])
                        clear hik hr hgq hpar
                        have HY := Lib.hid (rowV_wrap HC.out (show k ≤ 7 by omega))
                        go_wp2
                        go_roundw
                        case rel => first | exact ⟨k + 1, by omega, by go_num, congrArg (Value.int .i64) HY.out, hbZ⟩ | exact ⟨_, _, _, _, ⟨k + 1, by omega, by go_num, congrArg (Value.int .i64) HY.out⟩, rfl, rfl, rfl, rfl⟩
                        case measure => simp [intOf]; omega
                      · have t5 : (((i : Int) + k) % 2 == 1) = false := by simp; omega
                        have HC := Lib.hid (show confB P true i k = false by simp [confB, hik, HPP.out, HPZ.out, hr, hgq, hpar])
                        clear hik hr hgq hpar
                        have HN := Lib.hid (rowV_succ_no HC.out)
                        go_wp2
                        go_roundw
                        case rel => first | exact ⟨k + 1, by omega, by go_num, congrArg (Value.int .i64) HN.out, hbZ⟩ | exact ⟨_, _, _, _, ⟨k + 1, by omega, by go_num, congrArg (Value.int .i64) HN.out⟩, rfl, rfl, rfl, rfl⟩
                        case measure => simp [intOf]; omega
                    · have t4 : (p.gr != z.gr) = true := by simp [hgq]
                      have HC := Lib.hid (show confB P true i k = true by simp [confB, hik, HPP.out, HPZ.out, hr, hgq])
                      clear hik hr hgq
                      have HY := Lib.hid (rowV_wrap HC.out (show k ≤ 7 by omega))
                      go_wp2
                      go_roundw
                      case rel => first | exact ⟨k + 1, by omega, by go_num, congrArg (Value.int .i64) HY.out, hbZ⟩ | exact ⟨_, _, _, _, ⟨k + 1, by omega, by go_num, congrArg (Value.int .i64) HY.out⟩, rfl, rfl, rfl, rfl⟩
                      case measure => simp [intOf]; omega
              · obtain rfl : k = P.length := by omega
                have J9 := hJU.below hbr
                obtain ⟨l0, l1, l2, lf0, lf1, lf2⟩ := J9.three
                have oC9 := hoU.below hbr
                have b9 := lat_alloc (Below.refl wr.heap.size wr) (.cells #[.int .i64 (rowV P true i P.length : Nat)] 3)
                have hx9 := grown_more (grown_more hgU (grown_of_below (row := none) hbr) (fun j e => by cases e)) (grown_of_below (row := none) b9) (fun j e => by cases e)
                have hsz9 := hx9.size
                have oC9a := oC9.alloc (.cells #[.int .i64 (rowV P true i P.length : Nat)] 3)
                have hIn9 := ints_new (k := .i64) (w := wr) (C := #[.int .i64 (rowV P true i P.length : Nat)]) (T := 3) (f := (0, 0)) (l := [((rowV P true i P.length : Nat) : Int)]) (fun j hj => by simp at hj; subst hj; rfl)
                have J9b := J9.below b9
                go_wp2_with (at_builtin; refine wpList_append_ints rfl (.tmp 118) (.tmp 120) _ rfl V.heap.size 3 .i64 8 Try.underlying23 int_info vC _ rfl oC9a _ 1 [((rowV P true i P.length : Nat) : Int)] 1 rfl rfl hIn9 (by simp; omega) (by omega) hsz9 ?_; intro v9 w9 own9 hg9 a9; have J10 := J9b.grown hg9 (fun e => by have := (oC9a.lt e).1; omega); have hx10 := grown_more hx9 hg9 (fun j e => .inl (oC9a.lt e).1); obtain ⟨m0, m1, m2, mf0, mf1, mf2⟩ := J10.three; obtain ⟨A9, c9, hv9⟩ := own_len (n := i + 1) own9 (by simp); subst hv9)
                have hx11 := grown_more hx10 (grownBy_set w9 g4 1 (.slice A9 (i + 1) c9)) (fun j e => .inr e)
                go_roundw
                case rel => exact ⟨i + 1, _, by go_num, by omega, hx11, J10.set_ 1 _, by
                  rw [List.range_succ, List.map_append]
                  exact own_set own9 _ (by omega)⟩
                case measure => simp [intOf]; omega
          · obtain rfl : i = P.length := by omega
            obtain ⟨CB, cc, hvC, hcc, _, hIC⟩ := hoC.ints
            have HCc := Lib.hid (show P.length ≤ cc by simpa using hcc)
            clear hcc
            have hrl : ((List.range P.length).map fun j => (rowV P true j P.length : Int)).length = P.length := by simp
            rw [hrl] at hvC
            have hCB : ∀ a, CB = some a → V.heap.size ≤ a.block := fun a ha => by
              subst ha
              have := (hoC.lt (b := a.block) (by rw [hvC]; rfl)).1
              exact this
            subst hvC
            have Rw := hRV.res.grown hgw (fun e => by injection e with e; omega)
            obtain ⟨y0, y1, y2, yf0, yf1, yf2⟩ := Rw.three
            have hGw := hRV.gr.more hRV.dk hg hgw (fun k e => by injection e with e; omega)
            have hGf := Gr.set (i := 2) (Gr.set (i := 1) (Gr.set (i := 0) hGw hg (.slice PA P.length pc) (Nat.le_refl _)) hg (.slice CB P.length cc) (Nat.le_refl _)) hg (.int .i64 st) (Nat.le_refl _)
            have hwV := hRV.res.lt
            have hPf : ∀ w' : World, wr.heap.size ≤ w'.heap.size → (∀ b, b ≠ w.heap.size → w'.heap[b]? = wr.heap[b]?) → Phs w' w'.heap.size PA P := fun w' hs hk =>
              hPhV.keep (Nat.le_trans hgw.size hs) (fun a ha hB => by
                have := hPA a ha
                rw [hk a.block (by omega)]
                exact hgw.block _ hB (fun e => by injection e with e; omega))
            have hIf := ((hIC.far (i := 0) (b := w.heap.size) (fun a ha => by have := hCB a ha; omega) (.slice PA P.length pc)).far (i := 1) (b := w.heap.size) (fun a ha => by have := hCB a ha; omega) (.slice CB P.length cc)).far (i := 2) (b := w.heap.size) (fun a ha => by have := hCB a ha; omega) (.int .i64 st)
            go_wp2
            refine bodyPost_ret (results_cell rfl rfl (load_junction (Blk.set3 Rw _ _ _))) rfl ?_
            refine ⟨hGf.1, hGf.2, q, st, true, P, PA, CB, pc, cc, rfl, ⟨⟨st0, by omega⟩, by rw [HPN.out, hSS], fun j hj => by rw [hSS]; exact hRV.sh j (by have := HPN.out; omega), hRV.ok⟩, hPf _ (by simp [World.setCell]) (fun b hb => ?_), by simpa [World.setCell, rowsL] using hIf, fun a ha => by have := hPA a ha; omega, fun a ha => by have := hCB a ha; omega, HPc.out, HCc.out⟩
            rw [Below.heap_setCell _ _ _ _ hb, Below.heap_setCell _ _ _ _ hb, Below.heap_setCell _ _ _ _ hb]

      · have z3 : (x == 3) = false := by simpa using hx3
        clear hx3
        obtain ⟨v0, v1, v2, vf0, vf1, vf2⟩ := hRV.jn.three
        have hgV := hdv.lt
        have hg4V := hRV.jn.lt
        go_wp2_with fail
        clear v0 v1 v2 vf0 vf1 vf2
        go_loopw [71] (fun v wr => ∃ (i : Nat) (vC : Value), v = .int .i64 i ∧ i ≤ P.length ∧ V.grownBy wr (some g4) ∧ Blk wr g4 30 #[.slice PA P.length pc, vC, .int .i64 st] ∧ Own .i64 3 wr V.heap.size vC ((List.range i).map fun j => (rowV P false j P.length : Int))) (fun v _ => P.length - (intOf v).toNat)
        case atStart => exact ⟨0, _, rfl, by omega, .refl _ _, hRV.jn, Own.nil_ _ _ _ _⟩
        case round =>
          obtain ⟨i, vC, rfl, hi, hgw, hJw, hoC⟩ := hrel
          obtain ⟨v0, v1, v2, vf0, vf1, vf2⟩ := hJw.three
          by_cases hlt : i < P.length
          · have hlt' : (i : Int) < P.length := by omega
            obtain ⟨pb, po, rfl, hpB, hpi⟩ := hPhV.at hlt
            have hpne : pb ≠ g4 := by have := hPA _ rfl; simp at this; omega
            have hpw := hpi.block (hgw.block pb hpB (fun e => by injection e with e; omega))
            obtain ⟨q0', q1', q2', q3', q4', q5', q6', q7'⟩ := hpw
            generalize hpp : phAt P i = p at q0' q1' q2' q3' q4' q5' q6' q7'
            have HPP := Lib.hid hpp
            clear hpp
            have bU := lat_alloc (Below.refl wr.heap.size wr) (.cells #[.int .i64 p.ri, .int .i64 p.gr, .int .i64 p.mn, .int .i64 p.mx, .int .i64 p.yl, .int .i64 p.rd, .int .i64 p.wk, .int .i64 p.cl] 51)
            have hJU := hJw.below bU
            have B10 := Blk.new (w := wr) (t := 51) (cs := #[.int .i64 p.ri, .int .i64 p.gr, .int .i64 p.mn, .int .i64 p.mx, .int .i64 p.yl, .int .i64 p.rd, .int .i64 p.wk, .int .i64 p.cl])
            obtain ⟨l0, l1, l2, lf0, lf1, lf2⟩ := hJU.three
            have hgU := grown_more hgw (grown_of_below (row := none) bU) (fun j e => by cases e)
            have hoU := hoC.below bU
            go_wp2_with fail
            clear v0 v1 v2 vf0 vf1 vf2 l0 l1 l2 lf0 lf1 lf2 q0' q1' q2' q3' q4' q5' q6' q7'
            generalize wr.alloc (.cells #[.int .i64 p.ri, .int .i64 p.gr, .int .i64 p.mn, .int .i64 p.mx, .int .i64 p.yl, .int .i64 p.rd, .int .i64 p.wk, .int .i64 p.cl] 51) = U at *
            generalize wr.heap.size = g10 at *
            go_loopw [11, 79] (fun r v wr => ∃ k : Nat, k ≤ P.length ∧ v = .int .i64 k ∧ r = .int .i64 (rowV P false i k : Nat) ∧ Below U.heap.size U wr) (fun _ v _ => P.length - (intOf v).toNat)
            case atStart => exact ⟨0, by omega, rfl, rfl, Below.refl _ _⟩
            case round =>
              obtain ⟨k, hk, rfl, rfl, hbr⟩ := hrel
              by_cases hlk : k < P.length
              · have hlk' : (k : Int) < P.length := by omega
                obtain ⟨pb', po', hpa', hpB', hpk⟩ := hPhV.at hlk
                injection hpa' with hpa'
                injection hpa' with e1 e2 _
                subst e1 e2
                have hpkU := hpk.block (hgU.block pb hpB' (fun e => by injection e with e; omega))
                have hpkW := hpkU.block (hbr.block pb (Nat.lt_of_lt_of_le hpB' hgU.size))
                obtain ⟨q0', q1', q2', q3', q4', q5', q6', q7'⟩ := hpkW
                generalize hpz : phAt P k = z at q0' q1' q2' q3' q4' q5' q6' q7'
                have HPZ := Lib.hid hpz
                clear hpz
                have B10' := B10.below hbr
                have bZ := lat_alloc (Below.refl wr.heap.size wr) (.cells #[.int .i64 z.ri, .int .i64 z.gr, .int .i64 z.mn, .int .i64 z.mx, .int .i64 z.yl, .int .i64 z.rd, .int .i64 z.wk, .int .i64 z.cl] 51)
                have B10Z := B10'.below bZ
                have m0 := B10Z.at 0 rfl
                have m1 := B10Z.at 1 rfl
                have m2 := B10Z.at 2 rfl
                have m3 := B10Z.at 3 rfl
                have m4 := B10Z.at 4 rfl
                have m5 := B10Z.at 5 rfl
                have m6 := B10Z.at 6 rfl
                have m7 := B10Z.at 7 rfl
                have hbZ := hbr.trans (bZ.mono hbr.size)
                have hrl := rowV_lt P false i k
                have hp7 : (2 : Nat) ^ k ≤ 128 := by
                  have := Nat.pow_le_pow_right (n := 2) (by decide) (show k ≤ 7 by omega)
                  simpa using this
                by_cases hik : i = k
                · have t1 : ((i : Int) != k) = false := by simp [hik]
                  have t2 : (i != k) = false := by simp [hik]
                  have HC := Lib.hid (show confB P false i k = false by simp [confB, hik])
                  clear hik
                  have HN := Lib.hid (rowV_succ_no HC.out)
                  go_wp2
                  go_roundw
                  case rel => first | exact ⟨k + 1, by omega, by go_num, congrArg (Value.int .i64) HN.out, hbZ⟩ | exact ⟨_, _, _, _, ⟨k + 1, by omega, by go_num, congrArg (Value.int .i64) HN.out⟩, rfl, rfl, rfl, rfl⟩
                  case measure => simp [intOf]; omega
                · have t1 : ((i : Int) != k) = true := by simp; omega
                  have t2 : (i != k) = true := by simp [hik]
                  by_cases hr : p.ri = z.ri
                  · have t3 : (p.ri == z.ri) = true := by simp [hr]
                    have HC := Lib.hid (show confB P false i k = true by simp [confB, hik, HPP.out, HPZ.out, hr])
                    clear hik hr
                    have HY := Lib.hid (rowV_wrap HC.out (show k ≤ 7 by omega))
                    go_wp2
                    go_roundw
                    case rel => first | exact ⟨k + 1, by omega, by go_num, congrArg (Value.int .i64) HY.out, hbZ⟩ | exact ⟨_, _, _, _, ⟨k + 1, by omega, by go_num, congrArg (Value.int .i64) HY.out⟩, rfl, rfl, rfl, rfl⟩
                    case measure => simp [intOf]; omega
                  · have t3 : (p.ri == z.ri) = false := by simp [hr]
                    by_cases hgq : p.gr = z.gr
                    · have t4 : (p.gr != z.gr) = false := by simp [hgq]
                      have HC := Lib.hid (show confB P false i k = false by simp [confB, hik, HPP.out, HPZ.out, hr, hgq])
                      clear hik hr hgq
                      have HN := Lib.hid (rowV_succ_no HC.out)
                      go_wp2
                      go_roundw
                      case rel => first | exact ⟨k + 1, by omega, by go_num, congrArg (Value.int .i64) HN.out, hbZ⟩ | exact ⟨_, _, _, _, ⟨k + 1, by omega, by go_num, congrArg (Value.int .i64) HN.out⟩, rfl, rfl, rfl, rfl⟩
                      case measure => simp [intOf]; omega
                    · have t4 : (p.gr != z.gr) = true := by simp [hgq]
                      have HC := Lib.hid (show confB P false i k = true by simp [confB, hik, HPP.out, HPZ.out, hr, hgq])
                      clear hik hr hgq
                      have HY := Lib.hid (rowV_wrap HC.out (show k ≤ 7 by omega))
                      go_wp2
                      go_roundw
                      case rel => first | exact ⟨k + 1, by omega, by go_num, congrArg (Value.int .i64) HY.out, hbZ⟩ | exact ⟨_, _, _, _, ⟨k + 1, by omega, by go_num, congrArg (Value.int .i64) HY.out⟩, rfl, rfl, rfl, rfl⟩
                      case measure => simp [intOf]; omega
              · obtain rfl : k = P.length := by omega
                have J9 := hJU.below hbr
                obtain ⟨l0, l1, l2, lf0, lf1, lf2⟩ := J9.three
                have oC9 := hoU.below hbr
                have b9 := lat_alloc (Below.refl wr.heap.size wr) (.cells #[.int .i64 (rowV P false i P.length : Nat)] 3)
                have hx9 := grown_more (grown_more hgU (grown_of_below (row := none) hbr) (fun j e => by cases e)) (grown_of_below (row := none) b9) (fun j e => by cases e)
                have hsz9 := hx9.size
                have oC9a := oC9.alloc (.cells #[.int .i64 (rowV P false i P.length : Nat)] 3)
                have hIn9 := ints_new (k := .i64) (w := wr) (C := #[.int .i64 (rowV P false i P.length : Nat)]) (T := 3) (f := (0, 0)) (l := [((rowV P false i P.length : Nat) : Int)]) (fun j hj => by simp at hj; subst hj; rfl)
                have J9b := J9.below b9
                go_wp2_with (at_builtin; refine wpList_append_ints rfl (.tmp 118) (.tmp 120) _ rfl V.heap.size 3 .i64 8 Try.underlying23 int_info vC _ rfl oC9a _ 1 [((rowV P false i P.length : Nat) : Int)] 1 rfl rfl hIn9 (by simp; omega) (by omega) hsz9 ?_; intro v9 w9 own9 hg9 a9; have J10 := J9b.grown hg9 (fun e => by have := (oC9a.lt e).1; omega); have hx10 := grown_more hx9 hg9 (fun j e => .inl (oC9a.lt e).1); obtain ⟨m0, m1, m2, mf0, mf1, mf2⟩ := J10.three; obtain ⟨A9, c9, hv9⟩ := own_len (n := i + 1) own9 (by simp); subst hv9)
                have hx11 := grown_more hx10 (grownBy_set w9 g4 1 (.slice A9 (i + 1) c9)) (fun j e => .inr e)
                go_roundw
                case rel => exact ⟨i + 1, _, by go_num, by omega, hx11, J10.set_ 1 _, by
                  rw [List.range_succ, List.map_append]
                  exact own_set own9 _ (by omega)⟩
                case measure => simp [intOf]; omega
          · obtain rfl : i = P.length := by omega
            obtain ⟨CB, cc, hvC, hcc, _, hIC⟩ := hoC.ints
            have HCc := Lib.hid (show P.length ≤ cc by simpa using hcc)
            clear hcc
            have hrl : ((List.range P.length).map fun j => (rowV P false j P.length : Int)).length = P.length := by simp
            rw [hrl] at hvC
            have hCB : ∀ a, CB = some a → V.heap.size ≤ a.block := fun a ha => by
              subst ha
              have := (hoC.lt (b := a.block) (by rw [hvC]; rfl)).1
              exact this
            subst hvC
            have Rw := hRV.res.grown hgw (fun e => by injection e with e; omega)
            obtain ⟨y0, y1, y2, yf0, yf1, yf2⟩ := Rw.three
            have hGw := hRV.gr.more hRV.dk hg hgw (fun k e => by injection e with e; omega)
            have hGf := Gr.set (i := 2) (Gr.set (i := 1) (Gr.set (i := 0) hGw hg (.slice PA P.length pc) (Nat.le_refl _)) hg (.slice CB P.length cc) (Nat.le_refl _)) hg (.int .i64 st) (Nat.le_refl _)
            have hwV := hRV.res.lt
            have hPf : ∀ w' : World, wr.heap.size ≤ w'.heap.size → (∀ b, b ≠ w.heap.size → w'.heap[b]? = wr.heap[b]?) → Phs w' w'.heap.size PA P := fun w' hs hk =>
              hPhV.keep (Nat.le_trans hgw.size hs) (fun a ha hB => by
                have := hPA a ha
                rw [hk a.block (by omega)]
                exact hgw.block _ hB (fun e => by injection e with e; omega))
            have hIf := ((hIC.far (i := 0) (b := w.heap.size) (fun a ha => by have := hCB a ha; omega) (.slice PA P.length pc)).far (i := 1) (b := w.heap.size) (fun a ha => by have := hCB a ha; omega) (.slice CB P.length cc)).far (i := 2) (b := w.heap.size) (fun a ha => by have := hCB a ha; omega) (.int .i64 st)
            go_wp2
            refine bodyPost_ret (results_cell rfl rfl (load_junction (Blk.set3 Rw _ _ _))) rfl ?_
            refine ⟨hGf.1, hGf.2, q, st, false, P, PA, CB, pc, cc, rfl, ⟨⟨st0, by omega⟩, by rw [HPN.out, hSS], fun j hj => by rw [hSS]; exact hRV.sh j (by have := HPN.out; omega), hRV.ok⟩, hPf _ (by simp [World.setCell]) (fun b hb => ?_), by simpa [World.setCell, rowsL] using hIf, fun a ha => by have := hPA a ha; omega, fun a ha => by have := hCB a ha; omega, HPc.out, HCc.out⟩
            rw [Below.heap_setCell _ _ _ _ hb, Below.heap_setCell _ _ _ _ hb, Below.heap_setCell _ _ _ _ hb]

end Go.Proofs.Ytkpbkahmbbkcdaa
