/-
  Are all phases of a ring red: the program's dark. Conditions: as many lights as phases.
-/
import Derived.Test.YtkpbkahmbbkcdaaFo
import Derived.Test.YtkpbkahmbbkcdaaIc
import Derived.Test.YtkpbkahmbbkcdaaCa
namespace Go.Proofs.Ytkpbkahmbbkcdaa
open Go.ChangeShapes Go.WideShapes Go.RowKit Go.Shelf
set_option linter.unusedVariables false
attribute [local go_sem] Oper.semAt_some

/-- A light lies at offset o of block b. -/
def LiHere (w : World) (b o : Nat) (x : Int × Int) : Prop := w.cell? ⟨b, o, none⟩ = some (.int .i64 x.1) ∧ w.cell? ⟨b, o + 1, none⟩ = some (.int .i64 x.2)
theorem LiHere.block {w w' : World} {b o : Nat} {x : Int × Int} (h : LiHere w b o x) (hh : w'.heap[b]? = w.heap[b]?) : LiHere w' b o x := ⟨(World.cell?_of_block hh).trans h.1, (World.cell?_of_block hh).trans h.2⟩
theorem idleB_t {P : List Ph} {L : List (Int × Int)} {n : Nat} {r : Int} (h : IdleP P L n r) : idleB P L n r = true := by unfold idleB; exact decide_eq_true h
theorem idleB_f {P : List Ph} {L : List (Int × Int)} {n : Nat} {r : Int} (h : ¬ IdleP P L n r) : idleB P L n r = false := by unfold idleB; exact decide_eq_false h
set_option maxRecDepth 100000 in
set_option maxHeartbeats 4000000 in
theorem dark_any (B E : Option Addr) (b off bD oD cP d n m cL cx cX : Nat) (P : List Ph) (L : List (Int × Int)) (st g wt r : Int) (w : World) (hb : b < w.heap.size) (hph : ∀ i, i < n → PhHere w b (off + i * 8) (phAt P i)) (hl : n ≤ 60) (hbD : bD < w.heap.size) (hli : ∀ i, i < n → LiHere w bD (oD + i * 2) (prAt L i)) :
    Calls Try.prog 51 #[.agg #[.slice (some ⟨b, off, none⟩) n cP, .slice B m d, .int .i64 st], .agg #[.slice (some ⟨bD, oD, none⟩) n cL, .int .i64 g, .slice E cx cX, .int .i64 wt], .int .i64 r] w fun e w' => e = .returned (.bool (idleB P L n r)) ∧ Below w.heap.size w w' := by
  refine (callsIn_wide (n := 9)).1 ?_
  refine callsIn_of_wp_marks Try.func51 rfl trivial ?_ rfl
  simp only [Try.ntmps51, List.size_toArray, List.length_cons, List.length_nil, Nat.reduceAdd, Nat.reduceSub, Array.replicate_succ, Array.replicate_zero, List.push_toArray, List.append_toArray, List.nil_append, List.cons_append]
  gi_wp2_with (refine ⟨trivial, ?_⟩; gi_at_call 71; refine (callsIn_wide.2 (phases_any _ _ _ _ _)).mono ?_; rintro e w' ⟨rfl, rfl⟩)
  obtain ⟨W0, hW0⟩ : ∃ W0, W0 = ((((w.alloc (.cells #[.slice (some ⟨b, off, none⟩) n cP, .slice B m d, .int .i64 st] 30)).alloc (.cells #[.slice (some ⟨bD, oD, none⟩) n cL, .int .i64 g, .slice E cx cX, .int .i64 wt] 25)).alloc (.cells #[.bool false] 4)).alloc (.cells #[.slice (some ⟨b, off, none⟩) n cP, .slice B m d, .int .i64 st] 30)).alloc (.cells #[.int .i64 r] 3) := ⟨_, rfl⟩
  have hsz : W0.heap.size = w.heap.size + 1 + 1 + 1 + 1 + 1 := by rw [hW0]; simp only [World.size_alloc]
  have hB0 : Below w.heap.size w W0 := by
    rw [hW0]
    exact lat_alloc (lat_alloc (lat_alloc (lat_alloc (lat_alloc (Below.refl w.heap.size w) _) _) _) _) _
  have bJ : Blk W0 w.heap.size 30 #[.slice (some ⟨b, off, none⟩) n cP, .slice B m d, .int .i64 st] := by
    have := ((((Blk.new (w := w) (t := 30) (cs := #[.slice (some ⟨b, off, none⟩) n cP, .slice B m d, .int .i64 st])).alloc (.cells #[.slice (some ⟨bD, oD, none⟩) n cL, .int .i64 g, .slice E cx cX, .int .i64 wt] 25)).alloc (.cells #[.bool false] 4)).alloc (.cells #[.slice (some ⟨b, off, none⟩) n cP, .slice B m d, .int .i64 st] 30)).alloc (.cells #[.int .i64 r] 3)
    rw [← hW0] at this; simpa only [World.size_alloc] using this
  have bC : Blk W0 (w.heap.size + 1) 25 #[.slice (some ⟨bD, oD, none⟩) n cL, .int .i64 g, .slice E cx cX, .int .i64 wt] := by
    have := (((Blk.new (w := w.alloc (.cells #[.slice (some ⟨b, off, none⟩) n cP, .slice B m d, .int .i64 st] 30)) (t := 25) (cs := #[.slice (some ⟨bD, oD, none⟩) n cL, .int .i64 g, .slice E cx cX, .int .i64 wt])).alloc (.cells #[.bool false] 4)).alloc (.cells #[.slice (some ⟨b, off, none⟩) n cP, .slice B m d, .int .i64 st] 30)).alloc (.cells #[.int .i64 r] 3)
    rw [← hW0] at this; simpa only [World.size_alloc] using this
  have bR : Blk W0 (w.heap.size + 1 + 1) 4 #[.bool false] := by
    have := ((Blk.new (w := (w.alloc (.cells #[.slice (some ⟨b, off, none⟩) n cP, .slice B m d, .int .i64 st] 30)).alloc (.cells #[.slice (some ⟨bD, oD, none⟩) n cL, .int .i64 g, .slice E cx cX, .int .i64 wt] 25)) (t := 4) (cs := #[.bool false])).alloc (.cells #[.slice (some ⟨b, off, none⟩) n cP, .slice B m d, .int .i64 st] 30)).alloc (.cells #[.int .i64 r] 3)
    rw [← hW0] at this; simpa only [World.size_alloc] using this
  have bK : Blk W0 (w.heap.size + 1 + 1 + 1) 30 #[.slice (some ⟨b, off, none⟩) n cP, .slice B m d, .int .i64 st] := by
    have := (Blk.new (w := ((w.alloc (.cells #[.slice (some ⟨b, off, none⟩) n cP, .slice B m d, .int .i64 st] 30)).alloc (.cells #[.slice (some ⟨bD, oD, none⟩) n cL, .int .i64 g, .slice E cx cX, .int .i64 wt] 25)).alloc (.cells #[.bool false] 4)) (t := 30) (cs := #[.slice (some ⟨b, off, none⟩) n cP, .slice B m d, .int .i64 st])).alloc (.cells #[.int .i64 r] 3)
    rw [← hW0] at this; simpa only [World.size_alloc] using this
  have bL : Blk W0 (w.heap.size + 1 + 1 + 1 + 1) 3 #[.int .i64 r] := by
    have := Blk.new (w := (((w.alloc (.cells #[.slice (some ⟨b, off, none⟩) n cP, .slice B m d, .int .i64 st] 30)).alloc (.cells #[.slice (some ⟨bD, oD, none⟩) n cL, .int .i64 g, .slice E cx cX, .int .i64 wt] 25)).alloc (.cells #[.bool false] 4)).alloc (.cells #[.slice (some ⟨b, off, none⟩) n cP, .slice B m d, .int .i64 st] 30)) (t := 3) (cs := #[.int .i64 r])
    rw [← hW0] at this; simpa only [World.size_alloc] using this
  rw [← hW0]
  have hph0 : ∀ i, i < n → PhHere W0 b (off + i * 8) (phAt P i) := fun i hi => (hph i hi).block (hB0.block b hb)
  have hli0 : ∀ i, i < n → LiHere W0 bD (oD + i * 2) (prAt L i) := fun i hi => (hli i hi).block (hB0.block bD hbD)
  clear hW0 hph hli
  obtain ⟨f, hf⟩ : ∃ f : Nat → Bool, ∀ i, f i = decide ((phAt P i).ri = r) := ⟨_, fun _ => rfl⟩
  refine wpIn_rangeFunc_ownG rfl (by omega) (gf := 74) (lb := #[.pointer (some ⟨w.heap.size + 1 + 1 + 1, 0, none⟩), .pointer (some ⟨w.heap.size + 1 + 1 + 1 + 1, 0, none⟩)]) rfl trivial (enters_of Try.func74 (by kernel_rfl) rfl)
    (phases_stops Fence.wide (9 - 1) trivial rfl (by omega) (w.heap.size + 1 + 1 + 1) (w.heap.size + 1 + 1 + 1 + 1) w.heap.size b off n cP P r f hf hb hl W0 (by omega) (by omega) (by omega) (bK.at 0 rfl) (bL.at 0 rfl) hph0)
    kpR_t (kpR_b (by omega) (by omega)) (Below.refl _ _) (fun _ => rfl)
    (fun pre W => (∀ x ∈ pre, lmp L x.val = 0) ∧ Below W0.heap.size W0 W)
    (fun c pre W => (c = .ret ∧ ∃ ini last, pre = ini ++ [last] ∧ lmp L last.val ≠ 0 ∧ Blk W (w.heap.size + 1 + 1) 4 #[.bool false]) ∧ Below w.heap.size w W)
    (OwnFrom.and (ownFrom_pure _ _) (ownFrom_below (Nat.le_refl _) (Nat.le_refl _)))
    (fun c => OwnFrom.and (fun s A B row hs hg hr => by
      obtain ⟨hc, ini, last, e1, e3, e4⟩ := hs
      exact ⟨hc, ini, last, e1, e3, e4.grown hg (fun e => by have := (hr _ e).1; omega)⟩) (ownFrom_below (Nat.le_refl _) (by omega)))
    ⟨by simp, Below.refl _ _⟩
    (fun x => { tmps := #[.agg #[.slice (some ⟨b, off, none⟩) n cP, .slice B m d, .int .i64 st], .agg #[.slice (some ⟨bD, oD, none⟩) n cL, .int .i64 g, .slice E cx cX, .int .i64 wt], .int .i64 r, .pointer (some ⟨w.heap.size, 0, none⟩), .pointer (some ⟨w.heap.size + 1, 0, none⟩), undef, .pointer (some ⟨w.heap.size + 1 + 1, 0, none⟩), .int .i64 ((x.val : Nat) : Int), .agg #[.slice (some ⟨b, off, none⟩) n cP, .slice B m d, .int .i64 st], .int .i64 r, .func (.func 74) #[] #[.pointer (some ⟨w.heap.size + 1 + 1 + 1, 0, none⟩), .pointer (some ⟨w.heap.size + 1 + 1 + 1 + 1, 0, none⟩)], .int .i64 ((x.val : Nat) : Int), undef, undef, undef, undef, undef, undef, undef], defers := [] }) ?assign ?body ?done ?stop
  case assign =>
    intro l x W K hK
    gi_wp2
    exact hK
  case body =>
    rintro l pre x W ⟨hpre, hbW⟩ _
    obtain ⟨i, hi⟩ := x
    have hiZ : (i : Int) < n := by omega
    have c0 := (bC.below hbW).at 0 rfl
    have BR := bR.below hbW
    have jr := BR.at 0 rfl
    have jf := BR.frozen 0
    obtain ⟨l0, l1⟩ := (hli0 i hi).block (hbW.block bD (by omega))
    dsimp only at hpre ⊢
    by_cases h1 : (prAt L i).1 = 0
    · have h1d : ((prAt L i).1 != 0) = false := by simpa using h1
      have hlm : lmp L i = 0 := h1
      gi_wp2
      exact ⟨KeepsFrom.refl _ _, ⟨Below.refl _ _, rfl⟩, fun x hx => (List.mem_append.1 hx).elim (hpre x) (fun e => by simp at e; subst e; exact hlm), hbW⟩
    · have h1d : ((prAt L i).1 != 0) = true := by simpa using h1
      have hlm : lmp L i ≠ 0 := h1
      gi_wp2
      exact ⟨(KeepsOthers.setCell _ _ _).from _, ⟨rfl, pre, ⟨i, hi⟩, rfl, hlm, BR.set_ 0 _⟩, (hB0.trans (hbW.mono hB0.size)).setCell (p := ⟨w.heap.size + 1 + 1, 0, none⟩) (by show w.heap.size ≤ w.heap.size + 1 + 1; omega) _⟩
  case done =>
    rintro D ys W hD rfl ⟨hno, hbW⟩ hK
    have BR := bR.below hbW
    have jr := BR.at 0 rfl
    have jf := BR.frozen 0
    gi_wp2
    have hK' := (KeepsOthers.setCell W ⟨w.heap.size + 1 + 1, 0, none⟩ (.bool true)).same D _ hK rfl
    refine ⟨by simp, .inl ⟨_, _, rfl, run_takeDeferred hK', ?_⟩⟩
    have hc5 := cell_kept (World.cell?_setCell_same' W ⟨w.heap.size + 1 + 1, 0, none⟩ (.bool true) (by rw [jr]; rfl)) (grownBy_putObj' _ D (.deferred none)) (fun r e => by cases e; exact ⟨_, hK', rfl⟩)
    refine ⟨.bool true, ?_, ?_, ?_⟩
    · simp [results, Try.f51, go_sem, hc5]
    · rw [idleB_t (fun i hi hr => hno ⟨i, hi⟩ ((upF_mem n (Nat.le_refl n)).2 ⟨hi, by rw [hf]; simpa using hr⟩))]
    · have h1 := (hB0.trans (hbW.mono hB0.size)).setCell (p := ⟨w.heap.size + 1 + 1, 0, none⟩) (by show w.heap.size ≤ w.heap.size + 1 + 1; omega) (.bool true)
      exact h1.trans (belowK_b (w := w) (Nat.le_refl _) _ D _ _ (by omega) hK' rfl rfl)
  case stop =>
    rintro D c pre W hD hpre ⟨⟨rfl, ini, last, rfl, hlast, BR⟩, hbW⟩ hK
    obtain ⟨k, hk, hkr, hke⟩ := hpre
    obtain ⟨e1, e2⟩ := List.append_inj' hke rfl
    obtain rfl : last = ⟨k, hk⟩ := by simpa using e2
    have jr := BR.at 0 rfl
    gi_wp2
    refine ⟨by simp, .inl ⟨_, _, rfl, run_takeDeferred hK, ?_⟩⟩
    have hc5 := cell_kept jr (grownBy_putObj' _ D (.deferred none)) (fun r e => by cases e; exact ⟨_, hK, rfl⟩)
    refine ⟨.bool false, ?_, ?_, ?_⟩
    · simp [results, Try.f51, go_sem, hc5]
    · rw [idleB_f (fun h => hlast (h k hk hkr))]
    · exact hbW.trans (belowK_b (w := w) (Nat.le_refl _) _ D _ _ (by omega) hK rfl rfl)
end Go.Proofs.Ytkpbkahmbbkcdaa
namespace Go.Proofs.Ytkpbkahmbbkcdaa
open Go.ChangeShapes Go.WideShapes Go.RowKit Go.Shelf
set_option linter.unusedVariables false
attribute [local go_sem] Oper.semAt_some

theorem pcon_c (C : List Int) (A : Option Addr) (cA m p q : Nat) (w : World) (hm : C.length = m) (hs : Ints .i64 w w.heap.size A C) (hl : m ≤ 60) (hp : p < m) (hq : q < m) {b : Bool} (h : hasB (at_ C p) q = b) : Calls Try.prog 66 #[.slice A m cA, .int .i64 p, .int .i64 q] w fun e w' => e = .returned (.bool b) ∧ w = w' := by
  have := conflict_any A C cA w.heap.size p q w hs (by omega)
  rw [hm] at this
  have e1 : isRowB C p = true := by unfold isRowB; rw [decide_eq_true]; omega
  have e2 : isRowB C q = true := by unfold isRowB; rw [decide_eq_true]; omega
  have e : conB C p q = b := by unfold conB; rw [e1, e2, Bool.true_and, Bool.true_and, ← h]; rfl
  rw [e] at this
  exact this
/-- The first of the phases that do not conflict with t, or -1. -/
def fstF {n : Nat} (C : List Int) (t : Nat) (l : List (Fin n)) : Int := l.foldl (fun a x => if hasB (at_ C x.val) t = true then a else if a < 0 then ((x.val : Nat) : Int) else a) (-1)
theorem fstF_snoc {n : Nat} (C : List Int) (t : Nat) (l : List (Fin n)) (x : Fin n) : fstF C t (l ++ [x]) = if hasB (at_ C x.val) t = true then fstF C t l else if fstF C t l < 0 then ((x.val : Nat) : Int) else fstF C t l := by unfold fstF; rw [List.foldl_append]; rfl
theorem fstF_ge {n : Nat} (C : List Int) (t : Nat) (l : List (Fin n)) : -1 ≤ fstF C t l := by
  have h : ∀ (l : List (Fin n)) (a : Int), -1 ≤ a → -1 ≤ l.foldl (fun a x => if hasB (at_ C x.val) t = true then a else if a < 0 then ((x.val : Nat) : Int) else a) a := by
    intro l
    induction l with
    | nil => intro a h; exact h
    | cons x l ih => intro a h; rw [List.foldl_cons]; refine ih _ ?_; split; exact h; split <;> omega
  exact h l _ (by omega)
theorem Blk.lowR {w w' : World} {B g : Nat} {t : TypeId} {cs : Array Value} (h : Blk w g t cs) (hb : Below B w w') (hg : g < B) : Blk w' g t cs := (hb.block g hg).trans h
theorem kpR_set {n₀ BR : Nat} (W : World) (g : Nat) (u : Value) (hg : n₀ ≤ g) (hne : BR ≠ g) : KpR n₀ BR W (W.setCell ⟨g, 0, none⟩ u) :=
  ⟨(Below.refl _ W).setCell (p := ⟨g, 0, none⟩) hg _, Below.heap_setCell W ⟨g, 0, none⟩ u BR hne⟩
theorem cand_walk (P : List Ph) (C : List Int) (nx r : Int) (t n : Nat) (f : Nat → Bool) (hf : ∀ i, f i = decide ((phAt P i).ri = r)) : ∀ k (hk : k ≤ n), (∀ i : Nat, i < k → (phAt P i).ri = r → ¬ hasB (at_ C i) t = true → ¬ (0 ≤ nx ∧ nx ≤ (i : Int))) → candF P C nx r t 0 n (-1) = candF P C nx r t k (n - k) (fstF C t (upF n f k hk))
  | 0, _, _ => by simp [upF, fstF]
  | k + 1, hk, h => by
    rw [cand_walk P C nx r t n f hf k (by omega) (fun i hi => h i (by omega))]
    have e : n - k = (n - (k + 1)) + 1 := by omega
    rw [e, candF]
    by_cases h1 : (phAt P k).ri = r
    · have hfk : f k = true := by rw [hf]; simpa using h1
      have eu : upF n f (k + 1) hk = upF n f k (by omega) ++ [⟨k, hk⟩] := by rw [upF, hfk]; rfl
      rw [eu, fstF_snoc]
      by_cases h2 : hasB (at_ C k) t = true
      · simp [h1, h2]
      · have h3 := h k (by omega) h1 h2
        rw [if_neg (by simp [h1, h2]), if_neg h3]
        simp only [h2, if_false, Bool.false_eq_true]
    · have hfk : f k = false := by rw [hf]; simpa using h1
      have eu : upF n f (k + 1) hk = upF n f k (by omega) := by rw [upF, hfk]; simp
      rw [eu, if_pos (.inl h1)]
theorem cand_end (P : List Ph) (C : List Int) (nx r : Int) (t n : Nat) (f : Nat → Bool) (hf : ∀ i, f i = decide ((phAt P i).ri = r)) (h : ∀ i : Nat, i < n → (phAt P i).ri = r → ¬ hasB (at_ C i) t = true → ¬ (0 ≤ nx ∧ nx ≤ (i : Int))) : candF P C nx r t 0 n (-1) = fstF C t (upF n f n (Nat.le_refl n)) := by
  rw [cand_walk P C nx r t n f hf n (Nat.le_refl n) h, Nat.sub_self, candF]
theorem cand_stop (P : List Ph) (C : List Int) (nx r : Int) (t n : Nat) (f : Nat → Bool) (hf : ∀ i, f i = decide ((phAt P i).ri = r)) {k : Nat} (hk : k < n) (h : ∀ i : Nat, i < k → (phAt P i).ri = r → ¬ hasB (at_ C i) t = true → ¬ (0 ≤ nx ∧ nx ≤ (i : Int))) (h1 : (phAt P k).ri = r) (h2 : ¬ hasB (at_ C k) t = true) (h3 : 0 ≤ nx ∧ nx ≤ (k : Int)) : candF P C nx r t 0 n (-1) = k := by
  rw [cand_walk P C nx r t n f hf k (by omega) h]
  have e : n - k = (n - k - 1) + 1 := by omega
  rw [e, candF, if_neg (by simp [h1, h2]), if_pos h3]
set_option maxRecDepth 100000 in
set_option maxHeartbeats 4000000 in
theorem pcand_none (B : Option Addr) (b off bE oE cP d n cX : Nat) (P : List Ph) (C nx : List Int) (vL : Value) (st g wt : Int) (r : Nat) (w : World) (hl : n ≤ 60) (hr : r < 2) (hX2 : nx.length = 2) (hbE : bE < w.heap.size) (hX : ∀ i, i < 2 → w.cell? ⟨bE, oE + i, none⟩ = some (.int .i64 (at_ nx i))) :
    Calls Try.prog 50 #[.agg #[.slice (some ⟨b, off, none⟩) n cP, .slice B n d, .int .i64 st], .agg #[vL, .int .i64 g, .slice (some ⟨bE, oE, none⟩) 2 cX, .int .i64 wt], .int .i64 r, .int .i64 (-1)] w fun e w' => e = .returned (.int .i64 (at_ nx r)) ∧ Below w.heap.size w w' := by
  have bW : Below w.heap.size w (((((w.alloc (.cells #[.slice (some ⟨b, off, none⟩) n cP, .slice B n d, .int .i64 st] 30)).alloc (.cells #[vL, .int .i64 g, .slice (some ⟨bE, oE, none⟩) 2 cX, .int .i64 wt] 25)).alloc (.cells #[.int .i64 ((r : Nat) : Int)] 3)).alloc (.cells #[.int .i64 (-1)] 3)).alloc (.cells #[.int .i64 0] 3)) := lat_alloc (lat_alloc (lat_alloc (lat_alloc (lat_alloc (Below.refl w.heap.size w) _) _) _) _) _
  have hXr := (bW.cell (p := ⟨bE, oE + r, none⟩) hbE).trans (hX r hr)
  have hrZ : ((r : Nat) : Int) < 2 := by omega
  go_enter Try.func50, Try.ntmps50
  go_wp2
  refine bodyPost_ret (results_cell rfl rfl (V := .int .i64 (at_ nx r)) (by simp [go_sem])) rfl ?_
  exact ⟨rfl, lat_alloc (lat_alloc (lat_alloc (lat_alloc (lat_alloc (Below.refl w.heap.size w) _) _) _) _) _⟩
set_option maxRecDepth 100000 in
set_option maxHeartbeats 4000000 in
theorem pcand_loop (B : Option Addr) (b off bE oE cP d n cX : Nat) (P : List Ph) (C nx : List Int) (vL : Value) (st g wt : Int) (r t : Nat) (w : World) (hl : n ≤ 60) (hr : r < 2) (hX2 : nx.length = 2) (hbE : bE < w.heap.size) (hX : ∀ i, i < 2 → w.cell? ⟨bE, oE + i, none⟩ = some (.int .i64 (at_ nx i))) (hb : b < w.heap.size) (hph : ∀ i, i < n → PhHere w b (off + i * 8) (phAt P i)) (hCn : C.length = n) (hC : Ints .i64 w w.heap.size B C) (ht : t < n) (hnx : -1 ≤ at_ nx r) (hne : (phAt P t).ri ≠ r) :
    Calls Try.prog 50 #[.agg #[.slice (some ⟨b, off, none⟩) n cP, .slice B n d, .int .i64 st], .agg #[vL, .int .i64 g, .slice (some ⟨bE, oE, none⟩) 2 cX, .int .i64 wt], .int .i64 r, .int .i64 t] w fun e w' => e = .returned (.int .i64 (candV P C n (at_ nx r) r t)) ∧ Below w.heap.size w w' := by
  have bW : Below w.heap.size w (((((w.alloc (.cells #[.slice (some ⟨b, off, none⟩) n cP, .slice B n d, .int .i64 st] 30)).alloc (.cells #[vL, .int .i64 g, .slice (some ⟨bE, oE, none⟩) 2 cX, .int .i64 wt] 25)).alloc (.cells #[.int .i64 ((r : Nat) : Int)] 3)).alloc (.cells #[.int .i64 (((t : Nat) : Int))] 3)).alloc (.cells #[.int .i64 0] 3)) := lat_alloc (lat_alloc (lat_alloc (lat_alloc (lat_alloc (Below.refl w.heap.size w) _) _) _) _) _
  obtain ⟨x0, x1, x2, x3, x4, x5, x6, x7⟩ := (hph t ht).block (bW.block b hb)
  have htZ : ((t : Nat) : Int) < n := by omega
  clear x1 x2 x3 x4 x5 x6 x7
  have z1 : (((r : Nat) : Int) == (phAt P t).ri) = false := by simpa using fun h : ((r : Nat) : Int) = (phAt P t).ri => hne h.symm
  have z2 : (((t : Nat) : Int) == -1) = false := by simp
  refine (callsIn_wide (n := 9)).1 ?_
  refine callsIn_of_wp_marks Try.func50 rfl trivial ?_ rfl
  simp only [Try.ntmps50, List.size_toArray, List.length_cons, List.length_nil, Nat.reduceAdd, Nat.reduceSub, Array.replicate_succ, Array.replicate_zero, List.push_toArray, List.append_toArray, List.nil_append, List.cons_append]
  gi_wp2
  refine wpIn_region_quiet_r (by kernel_rfl) (by kernel_rfl) (by kernel_rfl) ?_
  repeat (gi_big_quiet_step (fail))
  refine wpQuietIn_nil ?_
  rintro _ ⟨nq, rfl⟩
  obtain ⟨V0, hV0⟩ : ∃ V0, V0 = ((((w.alloc (.cells #[.slice (some ⟨b, off, none⟩) n cP, .slice B n d, .int .i64 st] 30)).alloc (.cells #[vL, .int .i64 g, .slice (some ⟨bE, oE, none⟩) 2 cX, .int .i64 wt] 25)).alloc (.cells #[.int .i64 ((r : Nat) : Int)] 3)).alloc (.cells #[.int .i64 ((t : Nat) : Int)] 3)).alloc (.cells #[.int .i64 0] 3) := ⟨_, rfl⟩
  have hsz5 : V0.heap.size = w.heap.size + 1 + 1 + 1 + 1 + 1 := by rw [hV0]; simp only [World.size_alloc]
  have hB5 : Below w.heap.size w V0 := by
    rw [hV0]
    exact lat_alloc (lat_alloc (lat_alloc (lat_alloc (lat_alloc (Below.refl w.heap.size w) _) _) _) _) _
  have bJ : Blk V0 w.heap.size 30 #[.slice (some ⟨b, off, none⟩) n cP, .slice B n d, .int .i64 st] := by
    have := ((((Blk.new (w := w) (t := 30) (cs := #[.slice (some ⟨b, off, none⟩) n cP, .slice B n d, .int .i64 st])).alloc (.cells #[vL, .int .i64 g, .slice (some ⟨bE, oE, none⟩) 2 cX, .int .i64 wt] 25)).alloc (.cells #[.int .i64 ((r : Nat) : Int)] 3)).alloc (.cells #[.int .i64 ((t : Nat) : Int)] 3)).alloc (.cells #[.int .i64 0] 3)
    rw [← hV0] at this; simpa only [World.size_alloc] using this
  have bC : Blk V0 (w.heap.size + 1) 25 #[vL, .int .i64 g, .slice (some ⟨bE, oE, none⟩) 2 cX, .int .i64 wt] := by
    have := (((Blk.new (w := w.alloc (.cells #[.slice (some ⟨b, off, none⟩) n cP, .slice B n d, .int .i64 st] 30)) (t := 25) (cs := #[vL, .int .i64 g, .slice (some ⟨bE, oE, none⟩) 2 cX, .int .i64 wt])).alloc (.cells #[.int .i64 ((r : Nat) : Int)] 3)).alloc (.cells #[.int .i64 ((t : Nat) : Int)] 3)).alloc (.cells #[.int .i64 0] 3)
    rw [← hV0] at this; simpa only [World.size_alloc] using this
  have bG : Blk V0 (w.heap.size + 1 + 1) 3 #[.int .i64 ((r : Nat) : Int)] := by
    have := ((Blk.new (w := (w.alloc (.cells #[.slice (some ⟨b, off, none⟩) n cP, .slice B n d, .int .i64 st] 30)).alloc (.cells #[vL, .int .i64 g, .slice (some ⟨bE, oE, none⟩) 2 cX, .int .i64 wt] 25)) (t := 3) (cs := #[.int .i64 ((r : Nat) : Int)])).alloc (.cells #[.int .i64 ((t : Nat) : Int)] 3)).alloc (.cells #[.int .i64 0] 3)
    rw [← hV0] at this; simpa only [World.size_alloc] using this
  have bT : Blk V0 (w.heap.size + 1 + 1 + 1) 3 #[.int .i64 ((t : Nat) : Int)] := by
    have := (Blk.new (w := ((w.alloc (.cells #[.slice (some ⟨b, off, none⟩) n cP, .slice B n d, .int .i64 st] 30)).alloc (.cells #[vL, .int .i64 g, .slice (some ⟨bE, oE, none⟩) 2 cX, .int .i64 wt] 25)).alloc (.cells #[.int .i64 ((r : Nat) : Int)] 3)) (t := 3) (cs := #[.int .i64 ((t : Nat) : Int)])).alloc (.cells #[.int .i64 0] 3)
    rw [← hV0] at this; simpa only [World.size_alloc] using this
  have bR : Blk V0 (w.heap.size + 1 + 1 + 1 + 1) 3 #[.int .i64 0] := by
    have := Blk.new (w := (((w.alloc (.cells #[.slice (some ⟨b, off, none⟩) n cP, .slice B n d, .int .i64 st] 30)).alloc (.cells #[vL, .int .i64 g, .slice (some ⟨bE, oE, none⟩) 2 cX, .int .i64 wt] 25)).alloc (.cells #[.int .i64 ((r : Nat) : Int)] 3)).alloc (.cells #[.int .i64 ((t : Nat) : Int)] 3)) (t := 3) (cs := #[.int .i64 0])
    rw [← hV0] at this; simpa only [World.size_alloc] using this
  rw [← hV0]
  obtain ⟨V, hV⟩ : ∃ V, V = V0.drewN nq := ⟨_, rfl⟩
  have hsV : V.heap.size = V0.heap.size := by rw [hV]; rfl
  have hB5 : Below w.heap.size w V := by rw [hV]; exact below_drewN hB5
  replace bJ := bJ.drewN nq
  replace bC := bC.drewN nq
  replace bG := bG.drewN nq
  replace bT := bT.drewN nq
  replace bR := bR.drewN nq
  rw [← hV] at bJ bC bG bT bR ⊢
  clear hV bW x0
  rw [hsz5] at hsV
  clear hsz5 hV0
  have vJ := bJ.three
  have vG := bG.at 0 rfl
  gi_wp2_with (refine ⟨trivial, ?_⟩; gi_at_call 71; refine (callsIn_wide.2 (phases_any _ _ _ _ _)).mono ?_; rintro e w' ⟨rfl, rfl⟩)
  clear vJ vG
  obtain ⟨W0, hW0⟩ : ∃ W0, W0 = ((V.alloc (.cells #[.int .i64 (-1)] 3)).alloc (.cells #[.slice (some ⟨b, off, none⟩) n cP, .slice B n d, .int .i64 st] 30)).alloc (.cells #[.int .i64 ((r : Nat) : Int)] 3) := ⟨_, rfl⟩
  have hsz : W0.heap.size = w.heap.size + 1 + 1 + 1 + 1 + 1 + 1 + 1 + 1 := by rw [hW0]; simp only [World.size_alloc, hsV]
  have hB0 : Below V.heap.size V W0 := by
    rw [hW0]
    exact lat_alloc (lat_alloc (lat_alloc (Below.refl V.heap.size V) _) _) _
  have bQ : Blk W0 (w.heap.size + 1 + 1 + 1 + 1 + 1) 3 #[.int .i64 (-1)] := by
    have := ((Blk.new (w := V) (t := 3) (cs := #[.int .i64 (-1)])).alloc (.cells #[.slice (some ⟨b, off, none⟩) n cP, .slice B n d, .int .i64 st] 30)).alloc (.cells #[.int .i64 ((r : Nat) : Int)] 3)
    rw [← hW0] at this; simpa only [World.size_alloc, hsV] using this
  have bK : Blk W0 (w.heap.size + 1 + 1 + 1 + 1 + 1 + 1) 30 #[.slice (some ⟨b, off, none⟩) n cP, .slice B n d, .int .i64 st] := by
    have := (Blk.new (w := V.alloc (.cells #[.int .i64 (-1)] 3)) (t := 30) (cs := #[.slice (some ⟨b, off, none⟩) n cP, .slice B n d, .int .i64 st])).alloc (.cells #[.int .i64 ((r : Nat) : Int)] 3)
    rw [← hW0] at this; simpa only [World.size_alloc, hsV] using this
  have bL : Blk W0 (w.heap.size + 1 + 1 + 1 + 1 + 1 + 1 + 1) 3 #[.int .i64 ((r : Nat) : Int)] := by
    have := Blk.new (w := (V.alloc (.cells #[.int .i64 (-1)] 3)).alloc (.cells #[.slice (some ⟨b, off, none⟩) n cP, .slice B n d, .int .i64 st] 30)) (t := 3) (cs := #[.int .i64 ((r : Nat) : Int)])
    rw [← hW0] at this; simpa only [World.size_alloc, hsV] using this
  rw [← hW0]
  replace bJ := bJ.below hB0
  replace bC := bC.below hB0
  replace bG := bG.below hB0
  replace bT := bT.below hB0
  replace bR := bR.below hB0
  have hBw : Below w.heap.size w W0 := hB5.trans (hB0.mono (by omega))
  have hph0 : ∀ i, i < n → PhHere W0 b (off + i * 8) (phAt P i) := fun i hi => (hph i hi).block (hBw.block b hb)
  clear hW0 hph
  obtain ⟨f, hf⟩ : ∃ f : Nat → Bool, ∀ i, f i = decide ((phAt P i).ri = ((r : Nat) : Int)) := ⟨_, fun _ => rfl⟩
  have hXr := hX r hr
  obtain ⟨v, hv⟩ : ∃ v, at_ nx r = v := ⟨_, rfl⟩
  rw [hv] at hXr hnx
  refine wpIn_rangeFunc_ownG rfl (by omega) (gf := 74) (lb := #[.pointer (some ⟨w.heap.size + 1 + 1 + 1 + 1 + 1 + 1, 0, none⟩), .pointer (some ⟨w.heap.size + 1 + 1 + 1 + 1 + 1 + 1 + 1, 0, none⟩)]) rfl trivial (enters_of Try.func74 (by kernel_rfl) rfl)
    (phases_stops Fence.wide (9 - 1) trivial rfl (by omega) (w.heap.size + 1 + 1 + 1 + 1 + 1 + 1) (w.heap.size + 1 + 1 + 1 + 1 + 1 + 1 + 1) w.heap.size b off n cP P r f hf hb hl W0 (by omega) (by omega) (by omega) (bK.at 0 rfl) (bL.at 0 rfl) hph0)
    kpR_t (kpR_b (by omega) (by omega)) (Below.refl _ _) (fun _ => rfl)
    (fun pre W => (∀ x ∈ pre, ¬ hasB (at_ C x.val) t = true → ¬ (0 ≤ v ∧ v ≤ ((x.val : Nat) : Int))) ∧ Blk W (w.heap.size + 1 + 1 + 1 + 1 + 1) 3 #[.int .i64 (fstF C t pre)] ∧ Below (w.heap.size + 1 + 1 + 1 + 1 + 1) W0 W)
    (fun c pre W => (c = .ret ∧ ∃ ini last, pre = ini ++ [last] ∧ (∀ x ∈ ini, ¬ hasB (at_ C x.val) t = true → ¬ (0 ≤ v ∧ v ≤ ((x.val : Nat) : Int))) ∧ ¬ hasB (at_ C last.val) t = true ∧ (0 ≤ v ∧ v ≤ ((last.val : Nat) : Int)) ∧ Blk W (w.heap.size + 1 + 1 + 1 + 1) 3 #[.int .i64 ((last.val : Nat) : Int)]) ∧ Below w.heap.size w W)
    (OwnFrom.and (ownFrom_pure _ _) (OwnFrom.and (fun s A B row hs hg hr => hs.grown hg (fun e => by have := (hr _ e).1; omega)) (ownFrom_below (by omega) (by omega))))
    (fun c => OwnFrom.and (fun s A B row hs hg hr => by
      obtain ⟨hc, ini, last, e1, e2, e3, e4, e5⟩ := hs
      exact ⟨hc, ini, last, e1, e2, e3, e4, e5.grown hg (fun e => by have := (hr _ e).1; omega)⟩) (ownFrom_below (Nat.le_refl _) (by omega)))
    ⟨by simp, bQ, Below.refl _ _⟩
    (fun x => { tmps := #[.agg #[.slice (some ⟨b, off, none⟩) n cP, .slice B n d, .int .i64 st], .agg #[vL, .int .i64 g, .slice (some ⟨bE, oE, none⟩) 2 cX, .int .i64 wt], .int .i64 r, .int .i64 t, .pointer (some ⟨w.heap.size, 0, none⟩), .pointer (some ⟨w.heap.size + 1, 0, none⟩), .pointer (some ⟨w.heap.size + 1 + 1, 0, none⟩), .pointer (some ⟨w.heap.size + 1 + 1 + 1, 0, none⟩), .pointer (some ⟨w.heap.size + 1 + 1 + 1 + 1, 0, none⟩), .pointer (some ⟨w.heap.size + 1 + 1 + 1 + 1 + 1, 0, none⟩), .int .i64 ((x.val : Nat) : Int), .int .i64 t, .bool false, undef, undef, undef, undef, undef, .int .i64 r, .pointer (some ⟨w.heap.size, 0, none⟩), .slice (some ⟨b, off, none⟩) n cP, .int .i64 t, .pointer (some ⟨b, off + t * 8, none⟩), .pointer (some ⟨b, off + t * 8, none⟩), .int .i64 (phAt P t).ri, .bool false, undef, .agg #[.slice (some ⟨b, off, none⟩) n cP, .slice B n d, .int .i64 st], .int .i64 r, .func (.func 74) #[] #[.pointer (some ⟨w.heap.size + 1 + 1 + 1 + 1 + 1 + 1, 0, none⟩), .pointer (some ⟨w.heap.size + 1 + 1 + 1 + 1 + 1 + 1 + 1, 0, none⟩)], .int .i64 ((x.val : Nat) : Int), undef, undef, undef, undef, undef, undef, undef, undef, undef, undef, undef, undef, undef, undef, undef, undef, undef, undef, undef, undef, undef, undef, undef, undef, undef], defers := [] }) ?assign ?body ?done ?stop
  case assign =>
    intro l x W K hK
    gi_wp2
    exact hK
  case body =>
    rintro l pre x W ⟨hpre, bF, hbW⟩ _
    obtain ⟨i, hi⟩ := x
    have hiZ : (i : Int) < n := by omega
    have hBW : Below w.heap.size w W := hBw.trans (hbW.mono (by omega))
    have j1 := (bJ.lowR hbW (by omega)).at 1 rfl
    have c2 := (bC.lowR hbW (by omega)).at 2 rfl
    have g0 := (bG.lowR hbW (by omega)).at 0 rfl
    have t0 := (bT.lowR hbW (by omega)).at 0 rfl
    have BR := bR.lowR hbW (by omega)
    have r0 := BR.at 0 rfl
    have rf := BR.frozen 0
    have q0 := bF.at 0 rfl
    have qf := bF.frozen 0
    have e0 := (hBW.cell (p := ⟨bE, oE + r, none⟩) hbE).trans hXr
    have hrZ : ((r : Nat) : Int) < 2 := by omega
    have hc := fun (b0 : Bool) (h0 : hasB (at_ C i) t = b0) => pcon_c (b := b0) C B d n i t W hCn (hC.grow hBW) hl hi ht h0
    have hs := Lib.hid (fstF_snoc C t pre ⟨i, hi⟩)
    have hge := fstF_ge C t pre
    dsimp only at hpre hs ⊢
    generalize fstF C t pre = q at *
    by_cases h1 : hasB (at_ C i) t = true
    · gi_wp2_with (refine ⟨trivial, ?_⟩; gi_at_call 66; refine (CallsIn.inRound l (callsIn_wide.2 (hc _ h1))).mono ?_; rintro e w' ⟨rfl, rfl⟩)
      exact ⟨KeepsFrom.refl _ _, ⟨Below.refl _ _, rfl⟩, fun x hx => (List.mem_append.1 hx).elim (hpre x) (fun e => by simp at e; subst e; exact fun h => absurd h1 h), by rw [hs.out, if_pos h1]; exact bF, hbW⟩
    · have h1f : hasB (at_ C i) t = false := by simpa using h1
      by_cases h2 : 0 ≤ v ∧ v ≤ (i : Int)
      · have z1 : (v != -1) = true := by simp; omega
        have z2 := h2.2
        gi_wp2_with (refine ⟨trivial, ?_⟩; gi_at_call 66; refine (CallsIn.inRound l (callsIn_wide.2 (hc _ h1f))).mono ?_; rintro e w' ⟨rfl, rfl⟩)
        exact ⟨(KeepsOthers.setCell _ _ _).from _, ⟨rfl, pre, ⟨i, hi⟩, rfl, hpre, h1, h2, BR.set_ 0 _⟩, hBW.setCell (p := ⟨w.heap.size + 1 + 1 + 1 + 1, 0, none⟩) (by show w.heap.size ≤ w.heap.size + 1 + 1 + 1 + 1; omega) _⟩
      · have hno : ∀ x ∈ pre ++ [(⟨i, hi⟩ : Fin n)], ¬ hasB (at_ C x.val) t = true → ¬ (0 ≤ v ∧ v ≤ ((x.val : Nat) : Int)) := fun x hx => (List.mem_append.1 hx).elim (hpre x) (fun e => by simp at e; subst e; exact fun _ => h2)
        have hno := Lib.hid hno
        clear hpre
        by_cases h3 : v = -1
        · subst h3
          clear h2
          by_cases h4 : q = -1
          · subst h4
            gi_wp2_with (refine ⟨trivial, ?_⟩; gi_at_call 66; refine (CallsIn.inRound l (callsIn_wide.2 (hc _ h1f))).mono ?_; rintro e w' ⟨rfl, rfl⟩)
            exact ⟨(KeepsOthers.setCell _ _ _).from _, kpR_set W (w.heap.size + 1 + 1 + 1 + 1 + 1) _ (by omega) (by omega), hno.out, by rw [hs.out, if_neg h1, if_pos (by omega)]; exact bF.set_ 0 _, hbW.setCell (p := ⟨w.heap.size + 1 + 1 + 1 + 1 + 1, 0, none⟩) (by show w.heap.size + 1 + 1 + 1 + 1 + 1 ≤ w.heap.size + 1 + 1 + 1 + 1 + 1; omega) _⟩
          · have z4 : (q == -1) = false := by simpa using h4
            gi_wp2_with (refine ⟨trivial, ?_⟩; gi_at_call 66; refine (CallsIn.inRound l (callsIn_wide.2 (hc _ h1f))).mono ?_; rintro e w' ⟨rfl, rfl⟩)
            exact ⟨KeepsFrom.refl _ _, ⟨Below.refl _ _, rfl⟩, hno.out, by rw [hs.out, if_neg h1, if_neg (by omega)]; exact bF, hbW⟩
        · have z1 : (v != -1) = true := by simpa using h3
          have z2 : ¬ v ≤ (i : Int) := by omega
          by_cases h4 : q = -1
          · subst h4
            gi_wp2_with (refine ⟨trivial, ?_⟩; gi_at_call 66; refine (CallsIn.inRound l (callsIn_wide.2 (hc _ h1f))).mono ?_; rintro e w' ⟨rfl, rfl⟩)
            exact ⟨(KeepsOthers.setCell _ _ _).from _, kpR_set W (w.heap.size + 1 + 1 + 1 + 1 + 1) _ (by omega) (by omega), hno.out, by rw [hs.out, if_neg h1, if_pos (by omega)]; exact bF.set_ 0 _, hbW.setCell (p := ⟨w.heap.size + 1 + 1 + 1 + 1 + 1, 0, none⟩) (by show w.heap.size + 1 + 1 + 1 + 1 + 1 ≤ w.heap.size + 1 + 1 + 1 + 1 + 1; omega) _⟩
          · have z4 : (q == -1) = false := by simpa using h4
            gi_wp2_with (refine ⟨trivial, ?_⟩; gi_at_call 66; refine (CallsIn.inRound l (callsIn_wide.2 (hc _ h1f))).mono ?_; rintro e w' ⟨rfl, rfl⟩)
            exact ⟨KeepsFrom.refl _ _, ⟨Below.refl _ _, rfl⟩, hno.out, by rw [hs.out, if_neg h1, if_neg (by omega)]; exact bF, hbW⟩
  case done =>
    rintro D ys W hD rfl ⟨hno, bF, hbW⟩ hK
    have hBW : Below w.heap.size w W := hBw.trans (hbW.mono (by omega))
    have BR := bR.lowR hbW (by omega)
    have jr := BR.at 0 rfl
    have jf := BR.frozen 0
    have q0 := bF.at 0 rfl
    have he := Lib.hid (cand_end P C v r t n f hf (fun i hi hri => hno ⟨i, hi⟩ ((upF_mem n (Nat.le_refl n)).2 ⟨hi, by rw [hf]; simpa using hri⟩)))
    generalize fstF C t (upF n f n (Nat.le_refl n)) = q at *
    gi_wp2
    have hK' := (KeepsOthers.setCell W ⟨w.heap.size + 1 + 1 + 1 + 1, 0, none⟩ (.int .i64 q)).same D _ hK rfl
    refine ⟨by simp, .inl ⟨_, _, rfl, run_takeDeferred hK', ?_⟩⟩
    have hc5 := cell_kept (World.cell?_setCell_same' W ⟨w.heap.size + 1 + 1 + 1 + 1, 0, none⟩ (.int .i64 q) (by rw [jr]; rfl)) (grownBy_putObj' _ D (.deferred none)) (fun r e => by cases e; exact ⟨_, hK', rfl⟩)
    refine ⟨.int .i64 q, ?_, ?_, ?_⟩
    · simp [results, Try.f50, go_sem, hc5]
    · rw [candV, if_neg hne, hv, he.out]
    · have h1 := hBW.setCell (p := ⟨w.heap.size + 1 + 1 + 1 + 1, 0, none⟩) (by show w.heap.size ≤ w.heap.size + 1 + 1 + 1 + 1; omega) (.int .i64 q)
      exact h1.trans (belowK_b (w := w) (Nat.le_refl _) _ D _ _ (by omega) hK' rfl rfl)
  case stop =>
    rintro D c pre W hD hpre ⟨⟨rfl, ini, last, rfl, hini, hl1, hl2, BR⟩, hbW⟩ hK
    obtain ⟨k, hk, hkr, hke⟩ := hpre
    obtain ⟨e1, e2⟩ := List.append_inj' hke rfl
    obtain rfl : last = ⟨k, hk⟩ := by simpa using e2
    have jr := BR.at 0 rfl
    have he := Lib.hid (cand_stop P C v r t n f hf hk (fun i hi hri => hini ⟨i, by omega⟩ (by rw [e1]; exact (upF_mem k _).2 ⟨hi, by rw [hf]; simpa using hri⟩)) hkr hl1 hl2)
    gi_wp2
    refine ⟨by simp, .inl ⟨_, _, rfl, run_takeDeferred hK, ?_⟩⟩
    have hc5 := cell_kept jr (grownBy_putObj' _ D (.deferred none)) (fun r e => by cases e; exact ⟨_, hK, rfl⟩)
    refine ⟨.int .i64 (k : Nat), ?_, ?_, ?_⟩
    · simp [results, Try.f50, go_sem, hc5]
    · rw [candV, if_neg hne]; first | rw [he.out] | rw [hv, he.out]
    · exact hbW.trans (belowK_b (w := w) (Nat.le_refl _) _ D _ _ (by omega) hK rfl rfl)
end Go.Proofs.Ytkpbkahmbbkcdaa
