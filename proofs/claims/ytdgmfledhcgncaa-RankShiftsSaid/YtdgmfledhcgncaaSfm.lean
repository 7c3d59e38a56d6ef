/-
  Later by the same number everywhere: levels, locks, the order and the best claim are the same. Conditions: no tick is before the first one.
-/
import Derived.Test.YtdgmfledhcgncaaSe
namespace Go.Proofs.Ytdgmfledhcgncaa
open Go.ChangeShapes Go.WideShapes Go.RowKit
set_option linter.unusedVariables false

/-- A tick moved; never stays never. -/
def shE (d e : Int) : Int := if e = -1 then -1 else e + d
/-- A claim moved. -/
def shC (d : Int) (x : Cl) : Cl := ⟨x.ag, x.id, x.ph, x.cl, x.si + d⟩
theorem shE_one {d : Int} : shE d (-1) = -1 := by simp [shE]
theorem endV_sh (L : List Int) (d ph : Int) : endV (L.map (shE d)) ph = shE d (endV L ph) := by
  unfold endV
  rw [List.length_map]
  split
  · rw [shE_one]
  · rename_i h
    have hlt : ph.toNat < L.length := by omega
    simp [at_, hlt]
theorem start_sh {L : List Int} (hS : Small L) {d si : Int} (hd : 0 ≤ d) (hsi : 0 ≤ si) (ph : Int) : startV (L.map (shE d)) ph (si + d) = startV L ph si + d := by
  have h := endV_bd hS ph
  unfold startV
  rw [endV_sh]
  unfold shE
  split <;> omega
theorem level_sh {L : List Int} (hS : Small L) {d si : Int} (hd : 0 ≤ d) (hsi : 0 ≤ si) (per cap ph cl now : Int) : levelV per cap (L.map (shE d)) ph cl (si + d) (now + d) = levelV per cap L ph cl si now := by
  unfold levelV
  rw [start_sh hS hd hsi, show now + d - (startV L ph si + d) = now - startV L ph si by omega]
theorem lock_sh (L : List Int) {d : Int} (hd : 0 ≤ d) (hS : Small L) (lock ph cl now : Int) : lockB lock (L.map (shE d)) ph cl (now + d) = lockB lock L ph cl now := by
  have h := endV_bd hS ph
  unfold lockB
  rw [endV_sh]
  by_cases h1 : endV L ph = -1
  · simp [h1, shE_one]
  · have h2 : shE d (endV L ph) = endV L ph + d := by simp [shE, h1]
    have h3 : ¬ (endV L ph + d = -1) := by omega
    rw [h2, show now + d - (endV L ph + d) = now - endV L ph by omega]
    simp [h1, h3]
theorem lockC_sh {L : List Int} (hS : Small L) {d : Int} (hd : 0 ≤ d) (lock now : Int) (x : Cl) : lockC lock (L.map (shE d)) (now + d) (shC d x) = lockC lock L now x := lock_sh L hd hS lock x.ph x.cl now
theorem lex_sh (a b s a' b' s' d : Int) (t t' : List Int) : lexB (a :: b :: (s + d) :: t) (a' :: b' :: (s' + d) :: t') = lexB (a :: b :: s :: t) (a' :: b' :: s' :: t') := by
  simp only [lexB]
  have h1 : (s + d = s' + d) ↔ s = s' := by omega
  have h2 : (s + d < s' + d) ↔ s < s' := by omega
  simp only [h1, h2]
theorem less_sh {L : List Int} (hS : Small L) {d : Int} (hd : 0 ≤ d) (per cap now : Int) {x y : Cl} (hx : ClOk x) (hy : ClOk y) : lessC per cap (L.map (shE d)) (now + d) (shC d x) (shC d y) = lessC per cap L now x y := by
  unfold lessC keyC keyL shC
  simp only
  rw [level_sh hS hd hx.si.1, level_sh hS hd hy.si.1, start_sh hS hd hx.si.1, start_sh hS hd hy.si.1, lex_sh]
theorem clAt_sh (d : Int) {C : List Cl} {i : Nat} (h : i < C.length) : clAt (C.map (shC d)) i = shC d (clAt C i) := by
  simp [clAt, h]
theorem best_sh {L : List Int} (hS : Small L) {d : Int} (hd : 0 ≤ d) (per cap lock now : Int) {C : List Cl} (hC : AllOk C) : ∀ k, k ≤ C.length → bestK per cap lock (L.map (shE d)) (now + d) (C.map (shC d)) k = bestK per cap lock L now C k
  | 0, _ => rfl
  | k + 1, hk => by
    have ih := best_sh hS hd per cap lock now hC k (by omega)
    have hb := bestK_bd per cap lock L now C k
    unfold bestK
    rw [ih, clAt_sh d (by omega), lockC_sh hS hd]
    by_cases h0 : bestK per cap lock L now C k < 0
    · simp only [h0, if_true]
    · rw [clAt_sh d (show (bestK per cap lock L now C k).toNat < C.length by omega), less_sh hS hd per cap now (hC _ (clAt_mem (by omega))) (hC _ (clAt_mem (by omega)))]
theorem small_sh {L : List Int} {d now : Int} (hU : ∀ x ∈ L, -1 ≤ x ∧ x ≤ now) (hd : 0 ≤ d ∧ now + d ≤ 10000) (hn : -1 ≤ now) : Small (L.map (shE d)) := fun y hy => by
  obtain ⟨x, hx, rfl⟩ := List.mem_map.1 hy
  have := hU x hx
  unfold shE
  split <;> omega
theorem ok_sh {x : Cl} {d : Int} (h : ClOk x) (hd : 0 ≤ d ∧ x.si + d ≤ 10000) : ClOk (shC d x) := ⟨h.ph, h.cl, by have := h.si; show 0 ≤ x.si + d ∧ x.si + d ≤ 10000; omega⟩
theorem take_next {α β : Type} (f : α → β) (L : List α) (k : Nat) (x : α) (h : L[k]? = some x) : (L.take k).map f ++ [f x] = (L.take (k + 1)).map f := by
  rw [List.take_add_one, h]
  simp
theorem at_get {L : List Int} {k : Nat} (h : k < L.length) : L[k]? = some (at_ L k) := by simp [at_, h]
theorem level_c (per cap hold lock sp sg : Int) (A : Option Addr) (c n : Nat) (l : List Int) (now : Int) (x : Cl) (w : World) (hn : l.length = n) (hs : Ints .i64 w w.heap.size A l) (hl : n ≤ 1000000) (hS : Small l) (hper : 1 ≤ per ∧ per ≤ 10000) (hcap : 0 ≤ cap ∧ cap ≤ 1000) (hlock : 0 ≤ lock ∧ lock ≤ 1000) (hnow : 0 ≤ now ∧ now ≤ 10000) (hx : ClOk x) {v : Int} (hv : levelV per cap l x.ph x.cl x.si now = v) :
    Calls Try.prog 14 #[.agg #[.slice none 0 0, .slice none 0 0, .int .i64 per, .int .i64 cap, .int .i64 hold, .int .i64 lock], .agg #[.int .i64 sp, .int .i64 sg, .slice A n c], .agg #[.int .i64 x.ag, .int .i64 x.id, .int .i64 x.ph, .int .i64 x.cl, .int .i64 x.si], .int .i64 now] w fun e w' => e = .returned (.int .i64 v) ∧ Below w.heap.size w w' := by
  rw [← hv]
  exact level_any per cap hold lock sp sg A c n l x.ag x.id x.ph x.cl x.si now w hn hs hl hS hper hcap hlock hx.ph hx.cl hx.si hnow
theorem best_c (per cap hold lock sp sg : Int) (A : Option Addr) (c n : Nat) (l : List Int) (now : Int) (D : Option Addr) (d m : Nat) (C : List Cl) (w : World) (hn : l.length = n) (hs : Ints .i64 w w.heap.size A l) (hl : n ≤ 1000000) (hS : Small l) (hper : 1 ≤ per ∧ per ≤ 10000) (hcap : 0 ≤ cap ∧ cap ≤ 1000) (hlock : 0 ≤ lock ∧ lock ≤ 1000) (hnow : 0 ≤ now ∧ now ≤ 10000) (hm : C.length = m) (hC : Cls w w.heap.size D C) (hok : AllOk C) (hml : m ≤ 1000000) {v : Int} (hv : bestK per cap lock l now C C.length = v) :
    Calls Try.prog 20 #[.agg #[.slice none 0 0, .slice none 0 0, .int .i64 per, .int .i64 cap, .int .i64 hold, .int .i64 lock], .agg #[.int .i64 sp, .int .i64 sg, .slice A n c], .int .i64 now, .slice D m d] w fun e w' => e = .returned (.int .i64 v) ∧ Below w.heap.size w w' := by
  rw [← hv]
  exact best_any per cap hold lock sp sg A c n l now D d m C w hn hs hl hS hper hcap hlock hnow hm hC hok hml
end Go.Proofs.Ytdgmfledhcgncaa
