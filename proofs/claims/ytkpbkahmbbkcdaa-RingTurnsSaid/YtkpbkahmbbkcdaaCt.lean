/-
  Controls in memory: their lights, their Next. Conditions: none.
-/
import Derived.Test.YtkpbkahmbbkcdaaEn
import Derived.Test.YtkpbkahmbbkcdaaBl
import Derived.Deep.AppendLies
import Derived.Laws.MakeOwn
namespace Go.Proofs.Ytkpbkahmbbkcdaa
open Go.ChangeShapes Go.WideShapes Go.ChangeAt Go.RowKit
set_option linter.unusedVariables false

/-- A block that begins with the lights L. -/
def LiB (w : World) (g : Nat) (L : List (Int × Int)) : Prop := ∃ cs : Array Value, Blk w g 45 cs ∧ ∀ i, i < L.length → cs[i * 2]? = some (.int .i64 (prAt L i).1) ∧ cs[i * 2 + 1]? = some (.int .i64 (prAt L i).2)
/-- A block that begins with the numbers L. -/
def NxB (w : World) (g : Nat) (L : List Int) : Prop := ∃ cs : Array Value, Blk w g 3 cs ∧ ∀ i, i < L.length → cs[i]? = some (.int .i64 (at_ L i))
theorem LiB.lt {w : World} {g : Nat} {L : List (Int × Int)} (h : LiB w g L) : g < w.heap.size := by obtain ⟨cs, hB, _⟩ := h; exact hB.lt
theorem NxB.lt {w : World} {g : Nat} {L : List Int} (h : NxB w g L) : g < w.heap.size := by obtain ⟨cs, hB, _⟩ := h; exact hB.lt
theorem LiB.move {w w' : World} {g : Nat} {L : List (Int × Int)} (h : LiB w g L) (hh : w'.heap[g]? = w.heap[g]?) : LiB w' g L := by
  obtain ⟨cs, hB, hc⟩ := h
  exact ⟨cs, hh.trans hB, hc⟩
theorem NxB.move {w w' : World} {g : Nat} {L : List Int} (h : NxB w g L) (hh : w'.heap[g]? = w.heap[g]?) : NxB w' g L := by
  obtain ⟨cs, hB, hc⟩ := h
  exact ⟨cs, hh.trans hB, hc⟩
theorem LiB.below {w w' : World} {g : Nat} {L : List (Int × Int)} (h : LiB w g L) (hb : Below w.heap.size w w') : LiB w' g L := h.move (hb.block g h.lt)
theorem NxB.below {w w' : World} {g : Nat} {L : List Int} (h : NxB w g L) (hb : Below w.heap.size w w') : NxB w' g L := h.move (hb.block g h.lt)
theorem LiB.far {w : World} {g b i : Nat} {L : List (Int × Int)} (h : LiB w g L) (hne : g ≠ b) (u : Value) : LiB (w.setCell ⟨b, i, none⟩ u) g L := h.move (Below.heap_setCell _ _ _ _ hne)
theorem NxB.far {w : World} {g b i : Nat} {L : List Int} (h : NxB w g L) (hne : g ≠ b) (u : Value) : NxB (w.setCell ⟨b, i, none⟩ u) g L := h.move (Below.heap_setCell _ _ _ _ hne)
theorem LiB.grown {w w' : World} {g : Nat} {L : List (Int × Int)} {row : Option Nat} (h : LiB w g L) (hb : w.grownBy w' row) (hg : row ≠ some g) : LiB w' g L := h.move (hb.block g h.lt (fun e => hg e.symm))
theorem NxB.grown {w w' : World} {g : Nat} {L : List Int} {row : Option Nat} (h : NxB w g L) (hb : w.grownBy w' row) (hg : row ≠ some g) : NxB w' g L := h.move (hb.block g h.lt (fun e => hg e.symm))
theorem LiB.prs {w : World} {g : Nat} {L : List (Int × Int)} (h : LiB w g L) : Prs w w.heap.size (some ⟨g, 0, none⟩) L := fun _ => by
  have hl := h.lt
  obtain ⟨cs, hB, hc⟩ := h
  refine ⟨g, 0, rfl, hl, fun i hi => ?_⟩
  rw [Nat.zero_add]
  exact ⟨hB.at _ (hc i hi).1, hB.at _ (hc i hi).2⟩
theorem NxB.ints {w : World} {g : Nat} {L : List Int} (h : NxB w g L) : Ints .i64 w w.heap.size (some ⟨g, 0, none⟩) L := fun _ => by
  have hl := h.lt
  obtain ⟨cs, hB, hc⟩ := h
  refine ⟨g, 0, rfl, hl, fun i hi => ?_⟩
  rw [Nat.zero_add]
  exact hB.at _ (hc i hi)
theorem LiB.at {w : World} {g : Nat} {L : List (Int × Int)} (h : LiB w g L) {i : Nat} (hi : i < L.length) : w.cell? ⟨g, i * 2, none⟩ = some (.int .i64 (prAt L i).1) ∧ w.cell? ⟨g, i * 2 + 1, none⟩ = some (.int .i64 (prAt L i).2) ∧ w.frozen? ⟨g, i * 2, none⟩ = false ∧ w.frozen? ⟨g, i * 2 + 1, none⟩ = false := by
  obtain ⟨cs, hB, hc⟩ := h
  exact ⟨hB.at _ (hc i hi).1, hB.at _ (hc i hi).2, hB.frozen _, hB.frozen _⟩
theorem NxB.at {w : World} {g : Nat} {L : List Int} (h : NxB w g L) {i : Nat} (hi : i < L.length) : w.cell? ⟨g, i, none⟩ = some (.int .i64 (at_ L i)) ∧ w.frozen? ⟨g, i, none⟩ = false := by
  obtain ⟨cs, hB, hc⟩ := h
  exact ⟨hB.at _ (hc i hi), hB.frozen _⟩
theorem prAt_set {L : List (Int × Int)} {i : Nat} (hi : i < L.length) (x : Int × Int) (j : Nat) : prAt (L.set i x) j = if j = i then x else prAt L j := by
  unfold prAt
  rw [List.getD_eq_getElem?_getD, List.getD_eq_getElem?_getD]
  by_cases h : j = i
  · subst h; rw [if_pos rfl, List.getElem?_set_self hi]; rfl
  · rw [if_neg h, List.getElem?_set_ne (fun e => h e.symm)]
theorem LiB.set {w : World} {g : Nat} {L : List (Int × Int)} (h : LiB w g L) {i : Nat} (hi : i < L.length) (a b : Int) : LiB ((w.setCell ⟨g, i * 2, none⟩ (.int .i64 a)).setCell ⟨g, i * 2 + 1, none⟩ (.int .i64 b)) g (L.set i (a, b)) := by
  obtain ⟨cs, hB, hc⟩ := h
  refine ⟨_, (hB.set_ (i * 2) (.int .i64 a)).set_ (i * 2 + 1) (.int .i64 b), fun j hj => ?_⟩
  rw [List.length_set] at hj
  rw [prAt_set hi]
  have h0 := hc i hi
  have hs0 : i * 2 < cs.size := by
    rcases Nat.lt_or_ge (i * 2) cs.size with h | h
    · exact h
    · rw [Array.getElem?_eq_none h] at h0; cases h0.1
  have hs1 : i * 2 + 1 < cs.size := by
    rcases Nat.lt_or_ge (i * 2 + 1) cs.size with h | h
    · exact h
    · rw [Array.getElem?_eq_none h] at h0; cases h0.2
  by_cases e : j = i
  · subst e
    rw [if_pos rfl]
    constructor
    · rw [Array.getElem?_setIfInBounds_ne (by omega), Array.getElem?_setIfInBounds_self_of_lt hs0]
    · rw [Array.getElem?_setIfInBounds_self_of_lt (by simpa using hs1)]
  · rw [if_neg e]
    have h1 := hc j hj
    constructor
    · rw [Array.getElem?_setIfInBounds_ne (by omega), Array.getElem?_setIfInBounds_ne (by omega)]; exact h1.1
    · rw [Array.getElem?_setIfInBounds_ne (by omega), Array.getElem?_setIfInBounds_ne (by omega)]; exact h1.2
theorem NxB.set {w : World} {g : Nat} {L : List Int} (h : NxB w g L) {i : Nat} (hi : i < L.length) (a : Int) : NxB (w.setCell ⟨g, i, none⟩ (.int .i64 a)) g (L.set i a) := by
  obtain ⟨cs, hB, hc⟩ := h
  refine ⟨_, hB.set_ i (.int .i64 a), fun j hj => ?_⟩
  rw [List.length_set] at hj
  rw [at_set hi]
  have h0 := hc i hi
  have hs0 : i < cs.size := by
    rcases Nat.lt_or_ge i cs.size with h | h
    · exact h
    · rw [Array.getElem?_eq_none h] at h0; cases h0
  by_cases e : j = i
  · subst e
    rw [if_pos rfl, Array.getElem?_setIfInBounds_self_of_lt hs0]
  · rw [if_neg e, Array.getElem?_setIfInBounds_ne (by omega)]
    exact hc j hj
theorem row_block_of {w : World} {base g n cap m : Nat} {e : TypeId} {xs : List Value} (h : w.ownsRow base e m (.slice (some ⟨g, 0, none⟩) n cap) n xs) : ∃ cs : Array Value, Blk w g e cs ∧ ∀ (j : Nat) (u : Value), xs[j]? = some u → cs[j]? = some u := by
  obtain ⟨hl, ⟨h1, _⟩ | ⟨g', cap', cur, h1, hb, hh, hc, hm, hsz, ht⟩⟩ := h
  · cases h1
  · injection h1 with h1 h2 h3
    have h1 := Option.some.inj h1
    injection h1 with h1 _ _
    subst h1
    refine ⟨cur, hh, fun j u hu => ?_⟩
    have hj : j < xs.length := by
      rcases Nat.lt_or_ge j xs.length with h | h
      · exact h
      · rw [List.getElem?_eq_none h] at hu; cases hu
    have := congrArg (fun l => l[j]?) ht
    rw [List.getElem?_take_of_lt (by omega), hu] at this
    simpa using this
theorem row_cap {w : World} {base g n cap m : Nat} {e : TypeId} {xs : List Value} (h : w.ownsRow base e m (.slice (some ⟨g, 0, none⟩) n cap) n xs) : n ≤ cap := by
  obtain ⟨hl, ⟨h1, _⟩ | ⟨g', cap', cur, h1, hb, hh, hc, hm, hsz, ht⟩⟩ := h
  · cases h1
  · injection h1 with h1 h2 h3
    omega
theorem Own.nxb {w : World} {base g n cap : Nat} {L : List Int} (h : Own .i64 3 w base (.slice (some ⟨g, 0, none⟩) n cap) L) (hn : L.length = n) : NxB w g L := by
  subst hn
  obtain ⟨cs, hB, hc⟩ := row_block_of h
  exact ⟨cs, hB, fun i hi => hc i _ (by rw [List.getElem?_map]; simp [at_, hi])⟩
/-- The cells of lights. -/
def liC (x : Int × Int) : List Value := [.int .i64 x.1, .int .i64 x.2]
theorem prAt_get {L : List (Int × Int)} {i : Nat} (h : i < L.length) : L[i]? = some (prAt L i) := by simp [prAt, h]
theorem flat_li : ∀ (L : List (Int × Int)) (i : Nat), i < L.length → (L.flatMap liC)[i * 2]? = some (.int .i64 (prAt L i).1) ∧ (L.flatMap liC)[i * 2 + 1]? = some (.int .i64 (prAt L i).2)
  | [], _, h => absurd h (by simp)
  | x :: L, 0, _ => by simp [liC, prAt]
  | x :: L, i + 1, h => by
    have := flat_li L i (by simpa using h)
    have e : prAt (x :: L) (i + 1) = prAt L i := by simp [prAt]
    rw [e, List.flatMap_cons, show (i + 1) * 2 = i * 2 + 2 by omega]
    simpa [liC] using this
theorem flat_li_len (L : List (Int × Int)) : (L.flatMap liC).length = L.length * 2 := by
  induction L with
  | nil => rfl
  | cons x l ih => rw [List.flatMap_cons, List.length_append, ih, List.length_cons]; simp [liC]; omega
theorem opOk_append {o : Oper} {ev : Operand → Value} {w w' : World} {R : Value → World → Prop} {s x : Operand} {t : TypeId} {vs vx v : Value} (ho : o.op = .call { callee := .builtin .append, args := #[s, x], argTypes := #[t, t] }) (hs : ev s = vs) (hx : ev x = vx)
    (hr : (Builtin.append_ #[t, t] o.type #[vs, vx]).run Try.prog w = .ok v w') (h : R v w') : OpOk Try.prog o ev w R := by
  unfold OpOk execOp
  simp only [ho, resolve, invoke, builtin, Sem.run_bind, Sem.run_pure, Result.andThen_ok, List.map_toArray, List.map_cons, List.map_nil, hs, hx, hr]
  exact h
theorem li_info : (Try.prog.info? 45).map (fun i => (i.zero, i.size, i.bytes)) = some (some (.agg #[.int .i64 0, .int .i64 0]), 2, 16) := by kernel_rfl
theorem below_of_grown0 {w w' : World} (h : w.grownBy w' none) : Below w.heap.size w w' := ⟨h.os, h.tape, h.output, h.size, fun k hk => h.block k hk (by simp)⟩
/-- append of lights onto nil. -/
theorem copy_li {w : World} {A : Option Addr} {L : List (Int × Int)} {n c : Nat} (ty : TypeId) (hP : Prs w w.heap.size A L) (hn : L.length = n) (h1 : 0 < n) (h8 : n ≤ 1000) :
    ∃ g cap w', (Builtin.append_ #[22, 22] ty #[.slice none 0 0, .slice A n c]).run Try.prog w = .ok (.slice (some ⟨g, 0, none⟩) n cap) w' ∧ LiB w' g L ∧ Below w.heap.size w w' ∧ w.heap.size ≤ g ∧ n ≤ cap := by
  obtain ⟨i, hi, hz, hsz, hby⟩ := info_parts li_info
  obtain ⟨b, off, rfl, hb, hc⟩ := hP (by omega)
  obtain ⟨g, cap, w', hr, ho, hg, hat, hlt⟩ := run_append_lies (P := Try.prog) w 22 ty w.heap.size 45 i _ 2 16 Try.underlying22 hi hz hsz hby rfl (by omega) (.slice none 0 0) 0 [] row_nil ⟨b, off, none⟩ n c (L.flatMap liC) (by rw [flat_li_len, hn]) (fun j u hu => by
    have e1 : (Addr.add ⟨b, off, none⟩ j) = ⟨b, off + j, none⟩ := by unfold Addr.add; split <;> simp_all
    rw [e1]
    have hj : j < L.length * 2 := by
      rcases Nat.lt_or_ge j (L.flatMap liC).length with h | h
      · rw [flat_li_len] at h; exact h
      · rw [List.getElem?_eq_none h] at hu; cases hu
    have hi2 : j / 2 < L.length := by omega
    have h1 := flat_li L _ hi2
    have h2 := hc _ hi2
    rcases (by omega : j % 2 = 0 ∨ j % 2 = 1) with e | e
    · rw [show j = j / 2 * 2 by omega, h1.1] at hu
      rw [show off + j = off + j / 2 * 2 by omega, h2.1, ← hu]
    · rw [show j = j / 2 * 2 + 1 by omega, h1.2] at hu
      rw [show off + j = off + j / 2 * 2 + 1 by omega, h2.2, ← hu])
    (fun u hu => by
      obtain ⟨x, _, hx⟩ := List.mem_flatMap.1 hu
      simp only [liC, List.mem_cons, List.not_mem_nil, or_false] at hx
      rcases hx with rfl | rfl <;> rfl)
    h1 (by unfold maxLen; omega) (by omega) (Nat.le_refl _) w.heap.size rfl
  rw [Nat.zero_add] at hr ho
  refine ⟨g, cap, w', hr, ?_, below_of_grown0 hg, ?_, row_cap ho⟩
  · rw [List.nil_append] at ho
    obtain ⟨cs, hB, hcc⟩ := row_block_of ho
    exact ⟨cs, hB, fun i hi => ⟨hcc _ _ (flat_li L i hi).1, hcc _ _ (flat_li L i hi).2⟩⟩
  · rcases hat with h | h
    · cases h
    · omega
/-- append of numbers onto nil. -/
theorem copy_nx {w : World} {A : Option Addr} {L : List Int} {n c : Nat} (ty : TypeId) (hP : Ints .i64 w w.heap.size A L) (hn : L.length = n) (h1 : 0 < n) (h8 : n ≤ 1000) :
    ∃ g cap w', (Builtin.append_ #[23, 23] ty #[.slice none 0 0, .slice A n c]).run Try.prog w = .ok (.slice (some ⟨g, 0, none⟩) n cap) w' ∧ NxB w' g L ∧ Below w.heap.size w w' ∧ w.heap.size ≤ g := by
  subst hn
  obtain ⟨v', w', hr, ho, hg, hat⟩ := run_append_ints (P := Try.prog) (w := w) w.heap.size 23 ty 3 .i64 8 Try.underlying23 int_info (.slice none 0 0) [] (Own.nil_ _ _ _ _) A c L hP (by simp; omega) (by omega) (Nat.le_refl _)
  rw [List.nil_append] at ho
  obtain ⟨g, cap, hv, hgb, hgl⟩ := ho.form h1
  subst hv
  exact ⟨g, cap, w', hr, ho.nxb rfl, below_of_grown0 hg, hgb⟩
/-- A new row of lights. -/
theorem make_li (n : Nat) (hn : n ≤ 1000000) : ∃ ZA : Array Value, (∀ i, i < n → ZA[i * 2]? = some (.int .i64 0) ∧ ZA[i * 2 + 1]? = some (.int .i64 0)) ∧ ∀ w' : World, (Instr.makeSlice 22 (.int .i64 n) (.int .i64 n)).run Try.prog w' = .ok (.slice (some ⟨w'.heap.size, 0, none⟩) n n) (w'.alloc (.cells ZA 45)) := by
  obtain ⟨i, hi, hz, hsz, hby⟩ := info_parts li_info
  refine ⟨madeCells (Value.agg #[.int .i64 0, .int .i64 0]).cells (n * i.size), fun k hk => ?_, fun w' => ?_⟩
  · unfold madeCells
    rw [hsz]
    have h1 : k * 2 < n * 2 := by omega
    have h2 : k * 2 + 1 < n * 2 := by omega
    constructor
    · have hs2 : (Value.agg #[.int .i64 0, .int .i64 0]).cells.size = 2 := rfl
      simp only [Array.getElem?_map, Array.getElem?_range, h1, if_true, Option.map_some, hs2, show k * 2 % 2 = 0 by omega]; rfl
    · have hs2 : (Value.agg #[.int .i64 0, .int .i64 0]).cells.size = 2 := rfl
      simp only [Array.getElem?_map, Array.getElem?_range, h2, if_true, Option.map_some, hs2, show (k * 2 + 1) % 2 = 1 by omega]; rfl
  have h := run_make (P := Try.prog) (w := w') 22 45 i _ Try.underlying22 hi hz .i64 .i64 (n : Int) (n : Int) (by omega) (Int.le_refl _) (by rw [hby]; omega) (by omega)
  rw [Int.toNat_natCast] at h
  exact h
/-- A control. -/
structure Ct where
  (li : List (Int × Int)) (gr : Int) (nx : List Int) (wt : Int)
/-- The value v is the control c, whose parts lie from block B on. -/
def CtH (w : World) (B n : Nat) (v : Value) (c : Ct) : Prop := ∃ gl cl gx cx : Nat, v = .agg #[.slice (some ⟨gl, 0, none⟩) n cl, .int .i64 c.gr, .slice (some ⟨gx, 0, none⟩) 2 cx, .int .i64 c.wt] ∧ (B ≤ gl ∧ n ≤ cl) ∧ B ≤ gx ∧ LiB w gl c.li ∧ NxB w gx c.nx
/-- The cells of a variable hold the control c, whose parts lie from block B on. -/
structure Out (w : World) (gO B n : Nat) (gl cl gx cx : Nat) (c : Ct) : Prop where
  blk : Blk w gO 25 #[.slice (some ⟨gl, 0, none⟩) n cl, .int .i64 c.gr, .slice (some ⟨gx, 0, none⟩) 2 cx, .int .i64 c.wt]
  li : LiB w gl c.li
  nx : NxB w gx c.nx
  bl : B ≤ gl ∧ n ≤ cl
  bx : B ≤ gx
  nl : gl ≠ gO
  nn : gx ≠ gO
theorem CtH.below {w w' : World} {B n : Nat} {v : Value} {c : Ct} (h : CtH w B n v c) (hb : Below w.heap.size w w') : CtH w' B n v c := by
  obtain ⟨gl, cl, gx, cx, h1, h2, h3, h4, h5⟩ := h
  exact ⟨gl, cl, gx, cx, h1, h2, h3, h4.below hb, h5.below hb⟩
theorem Out.below {w w' : World} {gO B n gl cl gx cx : Nat} {c : Ct} (h : Out w gO B n gl cl gx cx c) (hb : Below w.heap.size w w') : Out w' gO B n gl cl gx cx c :=
  ⟨h.blk.below hb, h.li.below hb, h.nx.below hb, h.bl, h.bx, h.nl, h.nn⟩
end Go.Proofs.Ytkpbkahmbbkcdaa
