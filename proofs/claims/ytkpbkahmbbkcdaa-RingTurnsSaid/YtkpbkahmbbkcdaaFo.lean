/-
  The program's walk through the phases of a ring (a range over a function): its contract. Conditions: none.
-/
import Derived.RangeFuncNested
import Derived.RangeFuncBound
import Derived.RangeFuncCalls
import Derived.RangeFuncLeaves
import Derived.Shelf.Abstract
import Derived.Shelf.RegionOpen
import Derived.WalkKit
import Derived.OwnWalkIn
import Derived.TacticsInMore
import Derived.LoopNIn
import Derived.LoopIn
import Derived.Test.YtkpbkahmbbkcdaaSh
import Derived.WalkMore
import Derived.Deep.LoopGhost
import Derived.Sort.QuietIn
import Derived.RangeFuncWrites
import Derived.Test.YtkpbkahmbbkcdaaEn
namespace Go.Proofs.Ytkpbkahmbbkcdaa
open Go.ChangeShapes Go.WideShapes Go.RowKit Go.Shelf
set_option linter.unusedVariables false
attribute [local go_sem] Oper.semAt_some

/-- The numbers below k that f takes, ascending. -/
def upF (n : Nat) (f : Nat → Bool) : (k : Nat) → k ≤ n → List (Fin n)
  | 0, _ => []
  | k + 1, h => upF n f k (by omega) ++ (if f k then [⟨k, h⟩] else [])
theorem upF_len {n : Nat} {f : Nat → Bool} : ∀ k h, (upF n f k h).length ≤ k
  | 0, _ => by simp [upF]
  | k + 1, h => by
    have := upF_len (n := n) (f := f) k (by omega)
    rw [upF, List.length_append]; split <;> simp <;> omega
theorem upF_mem {n : Nat} {f : Nat → Bool} {x : Fin n} : ∀ k h, x ∈ upF n f k h ↔ x.val < k ∧ f x.val = true
  | 0, _ => by simp [upF]
  | k + 1, h => by
    rw [upF, List.mem_append, upF_mem k (by omega)]
    by_cases e : x.val = k
    · have : x = ⟨k, h⟩ := Fin.ext e
      subst this
      by_cases hf : f k <;> simp [hf]
    · have hne : ¬ x = ⟨k, h⟩ := fun h' => e (by rw [h'])
      by_cases hf : f k
      · simp only [hf, if_true, List.mem_singleton, hne, or_false]
        constructor
        · rintro ⟨a, b⟩; exact ⟨by omega, b⟩
        · rintro ⟨a, b⟩; exact ⟨by omega, b⟩
      · simp only [hf, Bool.false_eq_true, if_false, List.not_mem_nil, or_false]
        constructor
        · rintro ⟨a, b⟩; exact ⟨by omega, b⟩
        · rintro ⟨a, b⟩; exact ⟨by omega, b⟩
/-- What a round of the walk keeps: what lies below n₀, and the ring's box. -/
def KpR (n₀ BR : Nat) (W W' : World) : Prop := Below n₀ W W' ∧ W'.heap[BR]? = W.heap[BR]?
theorem kpR_t {n₀ BR : Nat} {A B C : World} (h : KpR n₀ BR A B) (k : KpR n₀ BR B C) : KpR n₀ BR A C := ⟨h.1.trans k.1, k.2.trans h.2⟩
theorem kpR_b {n₀ BR : Nat} {w : World} (hn : n₀ ≤ w.heap.size) (hB : BR < w.heap.size) (W : World) (l : Nat) (o o' : Obj) (hl : w.heap.size ≤ l) (h : W.heap[l]? = some o) (h1 : o.isCells = false) (h2 : o.isWalk = false) : KpR n₀ BR W (W.putObj l o') :=
  ⟨belowK_b hn W l o o' hl h h1 h2, World.putObj_heap_other (by omega)⟩
set_option maxRecDepth 100000 in
set_option maxHeartbeats 2000000 in
theorem ph1_in (F : Fence) (m : Nat) (hF : F.fn 74) (hro : F.round = none) (hm : 1 ≤ m) (l BJ BR n₀ b off n cP : Nat) (P : List Ph) (r : Int) (f : Nat → Bool) (hf : ∀ i, f i = decide ((phAt P i).ri = r)) (hb : b < n₀) (hl : n ≤ 60) (J Jx : List (Fin n) → World → Prop)
    (hJ : ∀ s (W : World) (o : Obj), J s W → J s (W.alloc o))
    (hY : ∀ pre x W, J pre W → pre.length < n → YieldAt F (m - 1) Try.prog l #[.int .i64 ((x.val : Nat) : Int)] W fun e W' =>
      (e = .returned (.bool true) ∧ J (pre ++ [x]) W' ∧ KpR n₀ BR W W') ∨ (e = .returned (.bool false) ∧ Jx (pre ++ [x]) W'))
    (W : World) (hn₀ : n₀ ≤ W.heap.size) (hBR : BR < W.heap.size) (hcJ : W.cell? ⟨BJ, 0, none⟩ = some (.slice (some ⟨b, off, none⟩) n cP)) (hcR : W.cell? ⟨BR, 0, none⟩ = some (.int .i64 r))
    (hph : ∀ i, i < n → PhHere W b (off + i * 8) (phAt P i)) (h0 : J [] W) :
    CallsIn F m Try.prog 74 #[.func (.yield l) #[] #[], .pointer (some ⟨BJ, 0, none⟩), .pointer (some ⟨BR, 0, none⟩)] W fun e W' => (∃ v, e = .returned v) ∧
      ((∃ ys, ys = upF n f n (Nat.le_refl n) ∧ J ys W') ∨ (∃ pre, (∃ k, ∃ h : k < n, (phAt P k).ri = r ∧ pre = upF n f k (by omega) ++ [⟨k, h⟩]) ∧ Jx pre W')) := by
  refine callsIn_of_wp Try.func74 rfl hF ?_ hro
  simp only [Try.ntmps74, List.size_toArray, List.length_cons, List.length_nil, Nat.reduceAdd, Nat.reduceSub, Array.replicate_succ, Array.replicate_zero, List.push_toArray, List.append_toArray, List.nil_append, List.cons_append]
  gi_wp2
  gi_loopw [9] (fun i wr => ∃ k, ∃ hk : k ≤ n, i = .int .i64 (k : Nat) ∧ J (upF n f k hk) wr ∧ KpR n₀ BR W wr)
    (fun i _ => n - (intOf i).toNat)
  case atStart => exact ⟨0, Nat.zero_le _, rfl, h0, Below.refl _ _, rfl⟩
  case round =>
    obtain ⟨k, hk, rfl, hJs, hkp⟩ := hrel
    by_cases hlt : k < n
    · have hltZ : (k : Int) < n := by omega
      have hR0 : wr.cell? ⟨BR, 0, none⟩ = some (.int .i64 r) := (World.cell?_of_block hkp.2).trans hcR
      obtain ⟨x0, x1, x2, x3, x4, x5, x6, x7⟩ := (hph k hlt).block (hkp.1.block b hb)
      have hsz : W.heap.size ≤ wr.heap.size := hkp.1.size
      obtain ⟨PC, hPC⟩ : ∃ PC : Obj, PC = .cells #[.int .i64 (phAt P k).ri, .int .i64 (phAt P k).gr, .int .i64 (phAt P k).mn, .int .i64 (phAt P k).mx, .int .i64 (phAt P k).yl, .int .i64 (phAt P k).rd, .int .i64 (phAt P k).wk, .int .i64 (phAt P k).cl] 51 := ⟨_, rfl⟩
      have hR1 : (wr.alloc PC).cell? ⟨BR, 0, none⟩ = some (.int .i64 r) := ((World.cell?_of_block (Below.heap_alloc wr PC BR (by omega))).trans hR0)
      have B5 := Blk.new (w := wr) (t := 51) (cs := #[.int .i64 (phAt P k).ri, .int .i64 (phAt P k).gr, .int .i64 (phAt P k).mn, .int .i64 (phAt P k).mx, .int .i64 (phAt P k).yl, .int .i64 (phAt P k).rd, .int .i64 (phAt P k).wk, .int .i64 (phAt P k).cl])
      have k0 := B5.at 0 rfl
      clear B5
      have hJ1 := hJ _ wr PC hJs
      have hkp1 : KpR n₀ BR W (wr.alloc PC) := ⟨hkp.1.alloc (by omega) PC, (Below.heap_alloc wr PC BR (by omega)).trans hkp.2⟩
      by_cases hri : (phAt P k).ri = r
      · obtain ⟨fn, tmps, assign, body, hy, hR⟩ := hY _ ⟨k, hlt⟩ (wr.alloc PC) hJ1 (Nat.lt_of_le_of_lt (upF_len k hk) hlt)
        dsimp only at hy
        have hfk : f k = true := by rw [hf, hri]; simp
        subst hPC
        subst hri
        gi_wp2
        refine hR.mono ?_
        rintro e W3 (⟨rfl, hJ3, hk3⟩ | ⟨rfl, hJx3⟩)
        · gi_wp2
          go_roundw
          case rel => exact ⟨k + 1, hlt, by go_num, by rw [upF, hfk]; exact hJ3, kpR_t hkp1 hk3⟩
          case measure => simp [intOf]; omega
        · gi_wp2
          refine bodyPost_ret (results_none rfl _ _ _) rfl ?_
          exact ⟨⟨_, rfl⟩, .inr ⟨_, ⟨k, hlt, rfl, rfl⟩, hJx3⟩⟩
      · have hfk : f k = false := by rw [hf]; simpa using hri
        have hne : ((phAt P k).ri == r) = false := by simpa using hri
        have hne2 : decide ((phAt P k).ri = r) = false := by simpa using hri
        subst hPC
        gi_wp2
        refine ⟨fun _ h => (by cases h), ?_⟩
        gi_wp2
        go_roundw
        case rel => exact ⟨k + 1, hlt, by go_num, by rw [upF, hfk]; simpa using hJ1, hkp1⟩
        case measure => simp [intOf]; omega
    · obtain rfl : k = n := by omega
      have hltZ : ¬ (k : Int) < k := by omega
      gi_wp2
      go_end0
      exact ⟨⟨_, rfl⟩, .inl hJs⟩
end Go.Proofs.Ytkpbkahmbbkcdaa
namespace Go.Proofs.Ytkpbkahmbbkcdaa
open Go.ChangeShapes Go.WideShapes Go.RowKit Go.Shelf
set_option linter.unusedVariables false

section
variable {F : Fence} {n : Nat} {P : Program} {ops : Array Oper} {md : Region.Mode} {C : World → Prop}
def noDefer (l : List Oper) : Bool := l.all fun o => match o.op with | .defer _ => false | _ => true
theorem noDefer_spec {l : List Oper} (h : noDefer l = true) (i : Nat) (o : Oper) (ho : l.toArray[i]? = some o) : ∀ c, o.op ≠ .defer c := fun c hc => by
  have hm : o ∈ l := List.mem_of_getElem? (by simpa using ho)
  have := List.all_eq_true.1 h o hm
  rw [hc] at this
  cases this
theorem wpIn_of_quiet_r {o : Oper} {a : Act} {K : Act → Prop} {K' : Act → World → Prop} {Q' : Exit → Act → World → Prop} {w : World} (hnd : ∀ c, o.op ≠ .defer c) (hw : C w) (h : ∀ a w', C w' → K a → K' a w')
    (ha : o.askedIn F P a C) (hh : o.quietIn F n P a C K) : o.wpIn F n P a w K' Q' := by
  obtain ⟨v, h1, h2⟩ := hh
  have h3 := h1 w hw
  unfold Oper.quietAtIn at h3
  unfold Oper.wpIn
  refine ⟨ha w hw, ?_⟩
  rw [Oper.semAt_plain F _ o hnd]
  generalize (execOp a.eval o).run P w = r at *
  cases r with
  | ok x w' =>
    cases x <;> simp only [Oper.quietUponIn] at h3 <;> simp only [Oper.uponIn]
    case value u =>
      obtain ⟨e1, e2⟩ := h3
      rw [e1, e2]
      exact h _ _ hw h2
    case skip =>
      obtain ⟨e1, e2⟩ := h3
      rw [e1, ← e2]
      exact h _ _ hw h2
    case enter f args =>
      obtain ⟨e1, hd, hc⟩ := h3
      rw [e1]
      exact ⟨hd, hc.mono fun e w'' ⟨he, hw''⟩ => by subst he; exact h _ _ hw'' h2⟩
  | halt x w' => simp only [Oper.quietUponIn] at h3
theorem wpOpIn_of_qOpIn_r {i : Nat} {a : Act} {K : Act → Prop} {K' : Act → World → Prop} {Q' : Exit → Act → World → Prop} {w : World} (hnd : ∀ (i : Nat) (o : Oper), ops[i]? = some o → ∀ c, o.op ≠ .defer c) (hC : C w) (h : ∀ a w', C w' → K a → K' a w')
    (hh : qOpIn F n P ops C i K a) : wpOpIn F n P ops Q' i K' a w := by
  unfold qOpIn at hh
  unfold wpOpIn
  split
  · rename_i ho; simp only [ho] at hh; exact h _ _ hC hh
  · rename_i o ho
    simp only [ho] at hh
    obtain ⟨ha, hh⟩ := hh
    split
    · rename_i hw; simp only [hw, if_true] at hh; exact wpIn_of_quiet_r (hnd i o ho) hC h ha hh
    · rename_i hw; simp only [hw] at hh; exact ⟨ha w hC, h _ _ hC hh⟩
theorem wpAnyIn_of_quiet_r {Q : Act → Prop} {Q' : Exit → Act → World → Prop} (hnd : ∀ (i : Nat) (o : Oper), ops[i]? = some o → ∀ c, o.op ≠ .defer c) (hQ : ∀ a w, C w → Q a → Q' .normal a w) : ∀ (fuel : Nat) (listed : Array Bool) (a : Act) (w : World), C w →
    wpAnyQIn F n P md ops C Q fuel listed a → wpAnyIn F n P md ops Q' fuel listed a w
  | 0, _, _, _, hw, h => ⟨h.1, hQ _ _ hw h.2⟩
  | fuel + 1, _, _, _, hw, h => ⟨fun h0 => hQ _ _ hw (h.1 h0), fun i hi => wpOpIn_of_qOpIn_r hnd hw (fun a' w' hw' => wpAnyIn_of_quiet_r hnd hQ fuel _ a' w' hw') (h.2 i hi)⟩
theorem wpIn_region_quiet_rc {id : Nat} {Q : Exit → Act → World → Prop} {a : Act} {w : World} (hnd : ∀ (i : Nat) (o : Oper), ops[i]? = some o → ∀ c, o.op ≠ .defer c) (hm : P.follows .mixedOrders = true) (hB : Region.lexB .any ops = true) (hC : C { w with drawn := w.drawn + 1 })
    (h : wpQuietIn F n P ops C (fun a' => ∀ w', C w' → Q .normal a' w') ops.toList a) : (Code.region id ops true).wpIn F n P Q a w := by
  simp only [Region.lexB, Bool.and_eq_true] at hB
  refine wpIn_region_any hm (wpAnyIn_of_quiet_r (Q := fun a' => ∀ w', C w' → Q .normal a' w') hnd (fun _ w' hw' h => h w' hw') _ _ _ _ hC ?_)
  have := wpAnyQIn_lex (F := F) (n := n) (C := C) (md := .any) hB.1 ops.toList 0 (Array.replicate ops.size false) a (by simp) (by simpa using hB.2) h
  simpa using this
theorem wpIn_region_quiet_r {id : Nat} {Q : Exit → Act → World → Prop} {a : Act} {w : World} {l : List Oper} (hnd : noDefer l = true) (hm : P.follows .mixedOrders = true) (hB : Region.lexB .any l.toArray = true)
    (h : wpQuietIn F n P l.toArray (fun w' => ∃ n, w' = w.drewN n) (fun a' => ∀ w', (∃ n, w' = w.drewN n) → Q .normal a' w') l a) : (Code.region id l.toArray true).wpIn F n P Q a w :=
  wpIn_region_quiet_rc (C := fun w' => ∃ n, w' = w.drewN n) (noDefer_spec hnd) hm hB ⟨1, rfl⟩ (by simpa using h)
end
theorem keepsFrom_drewN (B : Nat) (W : World) (n : Nat) : KeepsFrom B W (W.drewN n) := ⟨Nat.le_refl _, fun _ _ _ h _ => h⟩
theorem kpR_drewN (n₀ BR : Nat) (W : World) (n : Nat) : KpR n₀ BR W (W.drewN n) := ⟨below_drewN (Below.refl _ _), rfl⟩
end Go.Proofs.Ytkpbkahmbbkcdaa
namespace Go.Proofs.Ytkpbkahmbbkcdaa
open Go.ChangeShapes Go.WideShapes Go.RowKit Go.Shelf
set_option linter.unusedVariables false
attribute [local go_sem] Oper.semAt_some

theorem firstGt_app (p x : Int) (B : List Int) : ∀ A : List Int, (∀ y ∈ A, ¬ p < y) → p < x → firstGt (A ++ x :: B) p = x
  | [], _, h => by simp [firstGt, h]
  | y :: A, hA, h => by
    have h0 := hA y (by simp)
    simp only [List.cons_append, firstGt, h0, if_false]
    exact firstGt_app p x B A (fun z hz => hA z (by simp [hz])) h
theorem ofL_split (P : List Ph) (r g : Int) {i : Nat} (hr : (phAt P i).ri = r) (hg : (phAt P i).gr = g) : ∀ n, i < n → ∃ B, ofL P r g n = ofL P r g i ++ (i : Int) :: B
  | 0, h => absurd h (by omega)
  | n + 1, h => by
    by_cases e : i = n
    · subst e; exact ⟨[], by rw [ofL]; simp [hr, hg]⟩
    · obtain ⟨B, hB⟩ := ofL_split P r g hr hg n (by omega)
      rw [ofL, hB]
      split
      · exact ⟨B ++ [(n : Int)], by simp only [List.append_assoc, List.cons_append]⟩
      · exact ⟨B, rfl⟩
theorem follow_none (P : List Ph) (n : Nat) (r g p : Int) (h : ∀ i : Nat, i < n → (phAt P i).ri = r → ¬ (p < (i : Int) ∧ (phAt P i).gr = g)) : firstGt (ofL P r g n) p = -1 := by
  rcases firstGt_mem p (ofL P r g n) with h1 | h1
  · exact h1
  · refine firstGt_none p _ fun j hj hlt => ?_
    have hm : at_ (ofL P r g n) j ∈ ofL P r g n := by simp [at_, hj]
    obtain ⟨i, a, b, c, d⟩ := ofL_mem P r g _ n hm
    exact h i a c ⟨by rw [b] at hlt; exact hlt, d⟩
theorem follow_at (P : List Ph) (n : Nat) (r g p : Int) {i : Nat} (hi : i < n) (hr : (phAt P i).ri = r) (hg : (phAt P i).gr = g) (hp : p < (i : Int)) (h : ∀ k : Nat, k < i → (phAt P k).ri = r → ¬ (p < (k : Int) ∧ (phAt P k).gr = g)) : firstGt (ofL P r g n) p = i := by
  obtain ⟨B, hB⟩ := ofL_split P r g hr hg n hi
  rw [hB]
  refine firstGt_app p i B _ (fun y hy hlt => ?_) hp
  obtain ⟨k, a, b, c, d⟩ := ofL_mem P r g y i hy
  exact h k a c ⟨by rw [b] at hlt; exact hlt, d⟩
/-- What is yielded when a round has said 'no more'. -/
def SpR (P : List Ph) (r : Int) (n : Nat) (f : Nat → Bool) (pre : List (Fin n)) : Prop := ∃ k, ∃ h : k < n, (phAt P k).ri = r ∧ pre = upF n f k (by omega) ++ [⟨k, h⟩]
theorem phases_stops (F : Fence) (m : Nat) (hF : F.fn 74) (hro : F.round = none) (hm : 1 ≤ m) (BJ BR n₀ b off n cP : Nat) (P : List Ph) (r : Int) (f : Nat → Bool) (hf : ∀ i, f i = decide ((phAt P i).ri = r)) (hb : b < n₀) (hl : n ≤ 60)
    (w : World) (hn₀ : n₀ ≤ w.heap.size) (hBJ : BJ < w.heap.size) (hBR : BR < w.heap.size) (hcJ : w.cell? ⟨BJ, 0, none⟩ = some (.slice (some ⟨b, off, none⟩) n cP)) (hcR : w.cell? ⟨BR, 0, none⟩ = some (.int .i64 r))
    (hph : ∀ i, i < n → PhHere w b (off + i * 8) (phAt P i)) :
    SeqStopsK F m Try.prog 74 #[.pointer (some ⟨BJ, 0, none⟩), .pointer (some ⟨BR, 0, none⟩)] (fun x : Fin n => #[.int .i64 ((x.val : Nat) : Int)]) (KpR n₀ BR) (fun ys => ys = upF n f n (Nat.le_refl n)) (SpR P r n f) n w := fun l J Jx W hW hJ hJx hY h0 =>
  ph1_in F m hF hro hm l BJ BR n₀ b off n cP P r f hf hb hl J Jx (fun s W' o hs => hJ s W' _ none hs (World.grownBy_alloc W' o none) (fun r e => by cases e)) hY W
    (Nat.le_trans hn₀ hW.size) (Nat.lt_of_lt_of_le hBR hW.size) ((hW.cell (p := ⟨BJ, 0, none⟩) hBJ).trans hcJ) ((hW.cell (p := ⟨BR, 0, none⟩) hBR).trans hcR) (fun i hi => (hph i hi).block (hW.block b (Nat.lt_of_lt_of_le hb hn₀))) h0
theorem phases_any (a b c : Value) (r : Int) (w : World) :
    Calls Try.prog 71 #[.agg #[a, b, c], .int .i64 r] w fun e w' => e = .returned (.func (.func 74) #[] #[.pointer (some ⟨w.heap.size, 0, none⟩), .pointer (some ⟨w.heap.size + 1, 0, none⟩)]) ∧ w' = (w.alloc (.cells #[a, b, c] 30)).alloc (.cells #[.int .i64 r] 3) := by
  go_enter Try.func71, Try.ntmps71
  go_wp2
  go_ret
  exact ⟨rfl, rfl⟩
set_option maxRecDepth 100000 in
set_option maxHeartbeats 4000000 in
theorem following_any (B : Option Addr) (b off cP d n m : Nat) (P : List Ph) (st r g p : Int) (w : World) (hn : P.length = n) (hb : b < w.heap.size) (hph : ∀ i, i < n → PhHere w b (off + i * 8) (phAt P i)) (hl : n ≤ 60) :
    Calls Try.prog 67 #[.agg #[.slice (some ⟨b, off, none⟩) n cP, .slice B m d, .int .i64 st], .int .i64 r, .int .i64 g, .int .i64 p] w fun e w' => e = .returned (.int .i64 (firstGt (ofL P r g n) p)) ∧ Below w.heap.size w w' := by
  refine (callsIn_wide (n := 9)).1 ?_
  refine callsIn_of_wp_marks Try.func67 rfl trivial ?_ rfl
  simp only [Try.ntmps67, List.size_toArray, List.length_cons, List.length_nil, Nat.reduceAdd, Nat.reduceSub, Array.replicate_succ, Array.replicate_zero, List.push_toArray, List.append_toArray, List.nil_append, List.cons_append]
  gi_wp2_with (refine ⟨trivial, ?_⟩; gi_at_call 71; refine (callsIn_wide.2 (phases_any _ _ _ _ _)).mono ?_; rintro e w' ⟨rfl, rfl⟩)
  obtain ⟨W0, hW0⟩ : ∃ W0, W0 = (((((w.alloc (.cells #[.slice (some ⟨b, off, none⟩) n cP, .slice B m d, .int .i64 st] 30)).alloc (.cells #[.int .i64 g] 3)).alloc (.cells #[.int .i64 p] 3)).alloc (.cells #[.int .i64 0] 3)).alloc (.cells #[.slice (some ⟨b, off, none⟩) n cP, .slice B m d, .int .i64 st] 30)).alloc (.cells #[.int .i64 r] 3) := ⟨_, rfl⟩
  have hsz : W0.heap.size = w.heap.size + 1 + 1 + 1 + 1 + 1 + 1 := by rw [hW0]; simp only [World.size_alloc]
  have hB0 : Below w.heap.size w W0 := by
    rw [hW0]
    exact lat_alloc (lat_alloc (lat_alloc (lat_alloc (lat_alloc (lat_alloc (Below.refl w.heap.size w) _) _) _) _) _) _
  have bJ : Blk W0 w.heap.size 30 #[.slice (some ⟨b, off, none⟩) n cP, .slice B m d, .int .i64 st] := by
    rw [hW0]; exact (((((Blk.new (w := w)).alloc _).alloc _).alloc _).alloc _).alloc _
  have bG : Blk W0 (w.heap.size + 1) 3 #[.int .i64 g] := by
    have := (((((Blk.new (w := w.alloc (.cells #[.slice (some ⟨b, off, none⟩) n cP, .slice B m d, .int .i64 st] 30)) (t := 3) (cs := #[.int .i64 g])).alloc (.cells #[.int .i64 p] 3)).alloc (.cells #[.int .i64 0] 3)).alloc (.cells #[.slice (some ⟨b, off, none⟩) n cP, .slice B m d, .int .i64 st] 30)).alloc (.cells #[.int .i64 r] 3))
    rw [← hW0] at this; simpa only [World.size_alloc] using this
  have bP : Blk W0 (w.heap.size + 1 + 1) 3 #[.int .i64 p] := by
    have := ((((Blk.new (w := (w.alloc (.cells #[.slice (some ⟨b, off, none⟩) n cP, .slice B m d, .int .i64 st] 30)).alloc (.cells #[.int .i64 g] 3)) (t := 3) (cs := #[.int .i64 p])).alloc (.cells #[.int .i64 0] 3)).alloc (.cells #[.slice (some ⟨b, off, none⟩) n cP, .slice B m d, .int .i64 st] 30)).alloc (.cells #[.int .i64 r] 3))
    rw [← hW0] at this; simpa only [World.size_alloc] using this
  have bR : Blk W0 (w.heap.size + 1 + 1 + 1) 3 #[.int .i64 0] := by
    have := (((Blk.new (w := ((w.alloc (.cells #[.slice (some ⟨b, off, none⟩) n cP, .slice B m d, .int .i64 st] 30)).alloc (.cells #[.int .i64 g] 3)).alloc (.cells #[.int .i64 p] 3)) (t := 3) (cs := #[.int .i64 0])).alloc (.cells #[.slice (some ⟨b, off, none⟩) n cP, .slice B m d, .int .i64 st] 30)).alloc (.cells #[.int .i64 r] 3))
    rw [← hW0] at this; simpa only [World.size_alloc] using this
  have bK : Blk W0 (w.heap.size + 1 + 1 + 1 + 1) 30 #[.slice (some ⟨b, off, none⟩) n cP, .slice B m d, .int .i64 st] := by
    have := ((Blk.new (w := (((w.alloc (.cells #[.slice (some ⟨b, off, none⟩) n cP, .slice B m d, .int .i64 st] 30)).alloc (.cells #[.int .i64 g] 3)).alloc (.cells #[.int .i64 p] 3)).alloc (.cells #[.int .i64 0] 3)) (t := 30) (cs := #[.slice (some ⟨b, off, none⟩) n cP, .slice B m d, .int .i64 st])).alloc (.cells #[.int .i64 r] 3))
    rw [← hW0] at this; simpa only [World.size_alloc] using this
  have bL : Blk W0 (w.heap.size + 1 + 1 + 1 + 1 + 1) 3 #[.int .i64 r] := by
    have := (Blk.new (w := ((((w.alloc (.cells #[.slice (some ⟨b, off, none⟩) n cP, .slice B m d, .int .i64 st] 30)).alloc (.cells #[.int .i64 g] 3)).alloc (.cells #[.int .i64 p] 3)).alloc (.cells #[.int .i64 0] 3)).alloc (.cells #[.slice (some ⟨b, off, none⟩) n cP, .slice B m d, .int .i64 st] 30)) (t := 3) (cs := #[.int .i64 r]))
    rw [← hW0] at this; simpa only [World.size_alloc] using this
  rw [← hW0]
  have hph0 : ∀ i, i < n → PhHere W0 b (off + i * 8) (phAt P i) := fun i hi => (hph i hi).block (hB0.block b hb)
  clear hW0 hph
  obtain ⟨f, hf⟩ : ∃ f : Nat → Bool, ∀ i, f i = decide ((phAt P i).ri = r) := ⟨_, fun _ => rfl⟩
  refine wpIn_rangeFunc_ownG rfl (by omega) (gf := 74) (lb := #[.pointer (some ⟨w.heap.size + 1 + 1 + 1 + 1, 0, none⟩), .pointer (some ⟨w.heap.size + 1 + 1 + 1 + 1 + 1, 0, none⟩)]) rfl trivial (enters_of Try.func74 (by kernel_rfl) rfl)
    (phases_stops Fence.wide (9 - 1) trivial rfl (by omega) (w.heap.size + 1 + 1 + 1 + 1) (w.heap.size + 1 + 1 + 1 + 1 + 1) w.heap.size b off n cP P r f hf hb hl W0 (by omega) (by omega) (by omega) (bK.at 0 rfl) (bL.at 0 rfl) hph0)
    kpR_t (kpR_b (by omega) (by omega)) (Below.refl _ _) (fun _ => rfl)
    (fun pre W => (∀ x ∈ pre, ¬ (p < ((x.val : Nat) : Int) ∧ (phAt P x.val).gr = g)) ∧ Below W0.heap.size W0 W)
    (fun c pre W => (c = .ret ∧ ∃ ini last, pre = ini ++ [last] ∧ (∀ x ∈ ini, ¬ (p < ((x.val : Nat) : Int) ∧ (phAt P x.val).gr = g)) ∧ (p < ((last.val : Nat) : Int) ∧ (phAt P last.val).gr = g) ∧ Blk W (w.heap.size + 1 + 1 + 1) 3 #[.int .i64 ((last.val : Nat) : Int)]) ∧ Below w.heap.size w W)
    (OwnFrom.and (ownFrom_pure _ _) (ownFrom_below (Nat.le_refl _) (Nat.le_refl _)))
    (fun c => OwnFrom.and (fun s A B row hs hg hr => by
      obtain ⟨hc, ini, last, e1, e2, e3, e4⟩ := hs
      exact ⟨hc, ini, last, e1, e2, e3, e4.grown hg (fun e => by have := (hr _ e).1; omega)⟩) (ownFrom_below (Nat.le_refl _) (by omega)))
    ⟨by simp, Below.refl _ _⟩
    (fun x => { tmps := #[.agg #[.slice (some ⟨b, off, none⟩) n cP, .slice B m d, .int .i64 st], .int .i64 r, .int .i64 g, .int .i64 p, .pointer (some ⟨w.heap.size, 0, none⟩), undef, .pointer (some ⟨w.heap.size + 1, 0, none⟩), .pointer (some ⟨w.heap.size + 1 + 1, 0, none⟩), .pointer (some ⟨w.heap.size + 1 + 1 + 1, 0, none⟩), .int .i64 ((x.val : Nat) : Int), .agg #[.slice (some ⟨b, off, none⟩) n cP, .slice B m d, .int .i64 st], .int .i64 r, .func (.func 74) #[] #[.pointer (some ⟨w.heap.size + 1 + 1 + 1 + 1, 0, none⟩), .pointer (some ⟨w.heap.size + 1 + 1 + 1 + 1 + 1, 0, none⟩)], .int .i64 ((x.val : Nat) : Int), undef, undef, undef, undef, undef, undef, undef, undef, undef, undef, undef, undef, undef, undef], defers := [] }) ?assign ?body ?done ?stop
  case assign =>
    intro l x W K hK
    gi_wp2
    exact hK
  case body =>
    rintro l pre x W ⟨hpre, hbW⟩ _
    obtain ⟨i, hi⟩ := x
    have hiZ : (i : Int) < n := by omega
    have j0 := (bJ.below hbW).at 0 rfl
    have jg := (bG.below hbW).at 0 rfl
    have jp := (bP.below hbW).at 0 rfl
    have BR := bR.below hbW
    have jr := BR.at 0 rfl
    have jf := BR.frozen 0
    obtain ⟨x0, x1, x2, x3, x4, x5, x6, x7⟩ := (hph0 i hi).block (hbW.block b (by omega))
    clear x2 x3 x4 x5 x6 x7
    dsimp only at hpre ⊢
    by_cases h1 : p < (i : Int)
    · by_cases h2 : (phAt P i).gr = g
      · gi_wp2
        refine wpIn_region_quiet_r (by kernel_rfl) (by kernel_rfl) (by kernel_rfl) ?_
        repeat (gi_big_quiet_step (fail))
        refine wpQuietIn_nil ?_
        rintro _ ⟨nq, rfl⟩
        gi_wp2
        exact ⟨(keepsFrom_drewN _ _ _).trans ((KeepsOthers.setCell _ _ _).from _), ⟨rfl, pre, ⟨i, hi⟩, rfl, hpre, ⟨h1, h2⟩, (BR.drewN nq).set_ 0 _⟩, (below_drewN (hB0.trans (hbW.mono hB0.size))).setCell (p := ⟨w.heap.size + 1 + 1 + 1, 0, none⟩) (by show w.heap.size ≤ w.heap.size + 1 + 1 + 1; omega) _⟩
      · gi_wp2
        refine wpIn_region_quiet_r (by kernel_rfl) (by kernel_rfl) (by kernel_rfl) ?_
        repeat (gi_big_quiet_step (fail))
        refine wpQuietIn_nil ?_
        rintro _ ⟨nq, rfl⟩
        gi_wp2
        exact ⟨keepsFrom_drewN _ _ _, kpR_drewN _ _ _ _, fun x hx => (List.mem_append.1 hx).elim (hpre x) (fun e => by simp at e; subst e; exact fun h' => h2 h'.2), below_drewN hbW⟩
    · have h1d : decide (p < (i : Int)) = false := by simpa using h1
      gi_wp2
      refine wpIn_region_quiet_r (by kernel_rfl) (by kernel_rfl) (by kernel_rfl) ?_
      repeat (gi_big_quiet_step (fail))
      refine wpQuietIn_nil ?_
      rintro _ ⟨nq, rfl⟩
      gi_wp2
      exact ⟨keepsFrom_drewN _ _ _, kpR_drewN _ _ _ _, fun x hx => (List.mem_append.1 hx).elim (hpre x) (fun e => by simp at e; subst e; exact fun h' => absurd h'.1 (by simp only; omega)), below_drewN hbW⟩
  case done =>
    rintro D ys W hD rfl ⟨hno, hbW⟩ hK
    have BR := bR.below hbW
    have jr := BR.at 0 rfl
    have jf := BR.frozen 0
    gi_wp2
    have hK' := (KeepsOthers.setCell W ⟨w.heap.size + 1 + 1 + 1, 0, none⟩ (.int .i64 (-1))).same D _ hK rfl
    refine ⟨by simp, .inl ⟨_, _, rfl, run_takeDeferred hK', ?_⟩⟩
    have hc5 := cell_kept (World.cell?_setCell_same' W ⟨w.heap.size + 1 + 1 + 1, 0, none⟩ (.int .i64 (-1)) (by rw [jr]; rfl)) (grownBy_putObj' _ D (.deferred none)) (fun r e => by cases e; exact ⟨_, hK', rfl⟩)
    refine ⟨.int .i64 (-1), ?_, ?_, ?_⟩
    · simp [results, Try.f67, go_sem, hc5]
    · rw [follow_none P n r g p (fun i hi hr => hno ⟨i, hi⟩ ((upF_mem n (Nat.le_refl n)).2 ⟨hi, by rw [hf]; simpa using hr⟩))]
    · have h1 := (hB0.trans (hbW.mono hB0.size)).setCell (p := ⟨w.heap.size + 1 + 1 + 1, 0, none⟩) (by show w.heap.size ≤ w.heap.size + 1 + 1 + 1; omega) (.int .i64 (-1))
      exact h1.trans (belowK_b (w := w) (Nat.le_refl _) _ D _ _ (by omega) hK' rfl rfl)
  case stop =>
    rintro D c pre W hD hpre ⟨⟨rfl, ini, last, rfl, hini, hlast, BR⟩, hbW⟩ hK
    obtain ⟨k, hk, hkr, hke⟩ := hpre
    obtain ⟨e1, e2⟩ := List.append_inj' hke rfl
    obtain rfl : last = ⟨k, hk⟩ := by simpa using e2
    have jr := BR.at 0 rfl
    gi_wp2
    refine ⟨by simp, .inl ⟨_, _, rfl, run_takeDeferred hK, ?_⟩⟩
    have hc5 := cell_kept jr (grownBy_putObj' _ D (.deferred none)) (fun r e => by cases e; exact ⟨_, hK, rfl⟩)
    refine ⟨.int .i64 (k : Nat), ?_, ?_, ?_⟩
    · simp [results, Try.f67, go_sem, hc5]
    · rw [follow_at P n r g p hk hkr hlast.2 hlast.1 (fun i hi hr => hini ⟨i, by omega⟩ (by rw [e1]; exact (upF_mem k _).2 ⟨hi, by rw [hf]; simpa using hr⟩))]
    · exact hbW.trans (belowK_b (w := w) (Nat.le_refl _) _ D _ _ (by omega) hK rfl rfl)
end Go.Proofs.Ytkpbkahmbbkcdaa
