/-
  The law VarintReads answers true: what is read is the other side's, from any bytes. Conditions: none.
-/
import Derived.Test.YtepkpogpekflmaaBk
import Derived.Test.YtepkpogpekflmaaSp
namespace Go.Proofs.Ytepkpogpekflmaa
open Go.ChangeShapes Go.WideShapes Go.RowKit
set_option linter.unusedVariables false
attribute [local go_sem ↓] Go.wp_at_zero Go.wp_at_succ

theorem bits8_bd (op : BinOp) (x y : Int) : 0 ≤ bits op .u8 x y ∧ bits op .u8 x y ≤ 255 := by
  unfold bits
  have h : ∀ z : Int, 0 ≤ IntKind.u8.wrap z ∧ IntKind.u8.wrap z ≤ 255 := fun z => by rw [IntKind.wrap_u8]; omega
  first | exact h _ | (split <;> exact h _)
def Blk (w : World) (g : Nat) (t : TypeId) (cs : Array Value) : Prop := w.heap[g]? = some (.cells cs t (0, 0))
theorem Blk.at {w : World} {g : Nat} {t : TypeId} {cs : Array Value} (h : Blk w g t cs) (i : Nat) {v : Value} (hv : cs[i]? = some v) : w.cell? ⟨g, i, none⟩ = some v := (cell_of_row w g i cs t (0, 0) h).trans hv
theorem Blk.new {w : World} {t : TypeId} {cs : Array Value} : Blk (w.alloc (.cells cs t)) w.heap.size t cs := by
  show (w.heap.push _)[w.heap.size]? = _
  simp
set_option maxRecDepth 20000 in
set_option maxHeartbeats 2000000 in
theorem reads_any (A : Option Addr) (c : Nat) (b : List Int) (n at' by' : Int) (w : World) (hs : Ints .u8 w w.heap.size A b) (hby : Byte b) (hl : b.length ≤ 9223372036854775807)
    (ha : -9223372036854775808 ≤ n) (hb : n ≤ 9223372036854775807) (a0 : -9223372036854775808 ≤ at') (a1 : at' ≤ 9223372036854775807) (b0 : -9223372036854775808 ≤ by') (b1 : by' ≤ 9223372036854775807) :
    Calls Try.prog 4 #[.slice A b.length c, .int .i64 n, .int .i64 at', .int .i64 by'] w fun e w' => e = .returned (.bool true) ∧ Below w.heap.size w w' := by
  by_cases hsh : b.length ≤ 600
  · have h3 := near_bd n
    have h5 := modI_bd (nearI n) 4294967296 (by decide)
    go_enter Try.func4, Try.ntmps4
    go_wp2_with fail
    refine (short_any _ _ _ _ hl).mono ?_; rintro e w' ⟨rfl, rfl⟩
    go_wp2_with fail
    refine (near_any n ha hb _).mono ?_; rintro e w1 ⟨rfl, hb1⟩
    go_wp2_with fail
    refine (mod_any (nearI n) 4294967296 (by omega) (by omega) (by omega) (by omega) _).mono ?_; rintro e w' ⟨rfl, rfl⟩
    generalize modI (nearI n) 4294967296 = x at *
    clear h3
    go_wp2_with fail
    refine (rencode_yes x h5.1 (by omega) _).mono ?_; rintro e w2 ⟨v2, rfl, hown2, hb2⟩
    obtain ⟨A2, c2, rfl, hc2, hm2, hs2⟩ := hown2.ints
    have hbw : Below w.heap.size w w2 := hb1.trans (hb2.mono hb1.size)
    clear hown2 hb1 hb2
    have q2 : (enc x).length ≤ 5 := enc_len x
    have hxb := enc_byte x h5.1
    generalize enc x = m at *
    have hsb := (hs.below hbw).more hbw.size
    go_wp2_with fail
    refine (spoilt_any A2 c2 m at' by' w2 hs2 hxb (by omega) a0 a1 b0 b1).mono ?_
    rintro e w3 ⟨A3, c3, l3, rfl, hc3, hl3, hs3, hb3', hB3⟩
    have hs2 := hs2.grow hB3
    have hsb := hsb.grow hB3
    have hbw := hbw.trans (hB3.mono hbw.size)
    clear hB3
    go_wp2_with (first
      | (at_builtin; refine wpList_append_ints rfl (.const (.slice none 0 0)) (.tmp 36) _ rfl w3.heap.size 5 .u8 1 Try.underlying25 byte_info (.slice none 0 0) [] rfl (Own.nil_ _ _ _ _) A2 c2 m m.length rfl rfl hs2 (by simp; omega) (by omega) (Nat.le_refl _) ?_; intro v4 w4 hown4 hg4 hat4; rw [List.nil_append] at hown4; have hb4 : Below w3.heap.size w3 w4 := (Below.refl _ _).grown hg4 (Nat.le_refl _) (by simp [Value.ownBlock]); clear hg4 hat4)
      | (at_builtin; refine wpList_append_ints rfl (.tmp 37) (.tmp 38) _ rfl w3.heap.size 5 .u8 1 Try.underlying25 byte_info v4 m rfl hown4 A c b b.length rfl rfl (hsb.grow hb4) (by omega) (by omega) hb4.size ?_; intro v5 w5 hown5 hg5 hat5; have hb5 : Below w3.heap.size w3 w5 := hb4.grown hg5 hb4.size (fun k hk => (hown4.lt hk).1); obtain ⟨A5, c5, rfl, hc5, hm5, hs5⟩ := hown5.ints; clear hown4 hat5 hown5 hg5))
    have e1 := bits8_bd .or (by' % 256) 128
    have e2 := bits8_bd .or (at' % 256) 128
    generalize bits .or .u8 (by' % 256) 128 = y1 at *
    generalize bits .or .u8 (at' % 256) 128 = y2 at *
    have e3 : 0 ≤ by' % 256 ∧ by' % 256 ≤ 255 := by omega
    generalize by' % 256 = y3 at *
    have L1 : Byte [255, 255, 255, 255, y3] := fun z hz => by simp at hz; omega
    have L2 : Byte [y1, y2, 0] := fun z hz => by simp at hz; omega
    have bw3 := hbw.trans (hb5.mono hbw.size)
    have S1 : Ints .u8 (w5.alloc (.cells #[.int .u8 255, .int .u8 255, .int .u8 255, .int .u8 255, .int .u8 y3] 5)) (w5.alloc (.cells #[.int .u8 255, .int .u8 255, .int .u8 255, .int .u8 255, .int .u8 y3] 5)).heap.size (some ⟨w5.heap.size, 0, none⟩) [255, 255, 255, 255, y3] := ints_new (fun i hi => by simp at hi; rcases i with _ | _ | _ | _ | _ | i <;> first | rfl | omega)
    have S2 : Ints .u8 ((w5.alloc (.cells #[.int .u8 255, .int .u8 255, .int .u8 255, .int .u8 255, .int .u8 y3] 5)).alloc (.cells #[.int .u8 y1, .int .u8 y2, .int .u8 0] 5)) ((w5.alloc (.cells #[.int .u8 255, .int .u8 255, .int .u8 255, .int .u8 255, .int .u8 y3] 5)).alloc (.cells #[.int .u8 y1, .int .u8 y2, .int .u8 0] 5)).heap.size (some ⟨w5.heap.size + 1, 0, none⟩) [y1, y2, 0] := by
      rw [← heap_size w5 (.cells #[.int .u8 255, .int .u8 255, .int .u8 255, .int .u8 255, .int .u8 y3] 5)]
      exact ints_new (fun i hi => by simp at hi; rcases i with _ | _ | _ | i <;> first | rfl | omega)
    have BT := Blk.new (w := (w5.alloc (.cells #[.int .u8 255, .int .u8 255, .int .u8 255, .int .u8 255, .int .u8 y3] 5)).alloc (.cells #[.int .u8 y1, .int .u8 y2, .int .u8 0] 5)) (t := 25) (cs := #[.slice A b.length c, .slice A2 m.length c2, .slice A3 l3.length c3, .slice A5 (m.length + b.length) c5, .slice (some ⟨w5.heap.size, 0, none⟩) 5 5, .slice (some ⟨w5.heap.size + 1, 0, none⟩) 3 3])
    rw [heap_size, heap_size] at BT
    have bX := lat_alloc (lat_alloc (lat_alloc (Below.refl w5.heap.size w5) (.cells #[.int .u8 255, .int .u8 255, .int .u8 255, .int .u8 255, .int .u8 y3] 5)) (.cells #[.int .u8 y1, .int .u8 y2, .int .u8 0] 5)) (.cells #[.slice A b.length c, .slice A2 m.length c2, .slice A3 l3.length c3, .slice A5 (m.length + b.length) c5, .slice (some ⟨w5.heap.size, 0, none⟩) 5 5, .slice (some ⟨w5.heap.size + 1, 0, none⟩) 3 3] 25)
    have bX3 := hb5.trans (bX.mono hb5.size)
    have S1 := S1.grow (lat_alloc (lat_alloc (Below.refl _ _) (.cells #[.int .u8 y1, .int .u8 y2, .int .u8 0] 5)) (.cells #[.slice A b.length c, .slice A2 m.length c2, .slice A3 l3.length c3, .slice A5 (m.length + b.length) c5, .slice (some ⟨w5.heap.size, 0, none⟩) 5 5, .slice (some ⟨w5.heap.size + 1, 0, none⟩) 3 3] 25))
    have S2 := S2.grow (lat_alloc (Below.refl _ _) (.cells #[.slice A b.length c, .slice A2 m.length c2, .slice A3 l3.length c3, .slice A5 (m.length + b.length) c5, .slice (some ⟨w5.heap.size, 0, none⟩) 5 5, .slice (some ⟨w5.heap.size + 1, 0, none⟩) 3 3] 25))
    have S5 := hs5.grow bX
    have Sm := hs2.grow bX3
    have Sb := hsb.grow bX3
    have S3 := hs3.grow bX3
    have bw := hbw.trans (bX3.mono hbw.size)
    generalize ((w5.alloc (.cells #[.int .u8 255, .int .u8 255, .int .u8 255, .int .u8 255, .int .u8 y3] 5)).alloc (.cells #[.int .u8 y1, .int .u8 y2, .int .u8 0] 5)).alloc (.cells #[.slice A b.length c, .slice A2 m.length c2, .slice A3 l3.length c3, .slice A5 (m.length + b.length) c5, .slice (some ⟨w5.heap.size, 0, none⟩) 5 5, .slice (some ⟨w5.heap.size + 1, 0, none⟩) 3 3] 25) = W at *
    generalize w5.heap.size + 1 + 1 = gT at *
    clear bX bX3 hs2 hsb hs3 hs5 hs hbw
    have HC : ∀ k : Nat, k < 6 → ∃ B d l, W.cell? ⟨gT, k, none⟩ = some (.slice B l.length d) ∧ Ints .u8 W W.heap.size B l ∧ Byte l ∧ l.length ≤ 9223372036854775807 := by
      intro k hk
      rcases k with _ | _ | _ | _ | _ | _ | k
      · exact ⟨A, c, b, BT.at 0 rfl, Sb, hby, hl⟩
      · exact ⟨A2, c2, m, BT.at 1 rfl, Sm, hxb, by omega⟩
      · exact ⟨A3, c3, l3, BT.at 2 rfl, S3, hb3', by omega⟩
      · exact ⟨A5, c5, m ++ b, by rw [List.length_append]; exact BT.at 3 rfl, S5, hxb.app hby, by simp; omega⟩
      · exact ⟨_, 5, [255, 255, 255, 255, y3], BT.at 4 rfl, S1, L1, by simp⟩
      · exact ⟨_, 3, [y1, y2, 0], BT.at 5 rfl, S2, L2, by simp⟩
      · omega
    clear BT Sb Sm S3 S5 S1 S2
    go_loopw [52] (fun i wr => ∃ k : Nat, k ≤ 6 ∧ i = .int .i64 k ∧ W = wr) (fun i _ => 6 - (intOf i).toNat)
    case atStart => exact ⟨0, by omega, rfl, rfl⟩
    case round =>
      obtain ⟨k, hk, rfl, hW⟩ := hrel
      subst hW
      by_cases hlt : k < 6
      · have hlt' : (k : Int) < 6 := by omega
        obtain ⟨B, d, l, hc, hI, hB, hll⟩ := HC k hlt
        clear HC
        go_wp2_with fail
        have hd1 := decode_any B d l W hI hB hll
        have hd2 := rdecode_any B d l W hI hB hll
        generalize dec l = t at hd1 hd2
        obtain ⟨v, j, g⟩ := t
        refine hd1.mono ?_; unfold trip; rintro e w' ⟨rfl, rfl⟩
        go_wp2_with fail
        refine hd2.mono ?_; unfold trip; rintro e w' ⟨rfl, rfl⟩
        clear hd1 hd2
        go_wp2
        go_roundw
        case rel => exact ⟨k + 1, by omega, by go_num, trivial⟩
        case measure => simp [intOf]; omega
      · go_wp2_with (go_at_call 13; refine (awake_any _).mono ?_; rintro e w' ⟨rfl, hw⟩)
        go_ret
        exact ⟨rfl, bw.trans (hw.mono bw.size)⟩
  · have h1' : decide (b.length ≤ 600) = false := by simpa using hsh
    go_enter Try.func4, Try.ntmps4
    go_wp2_with (first
      | (go_at_call 14; refine (short_any _ _ _ _ (by assumption)).mono ?_; rintro e w' ⟨rfl, rfl⟩)
      | (go_at_call 13; refine (awake_any _).mono ?_; rintro e w' ⟨rfl, hw⟩))
    go_ret
    exact ⟨rfl, hw⟩
end Go.Proofs.Ytepkpogpekflmaa
