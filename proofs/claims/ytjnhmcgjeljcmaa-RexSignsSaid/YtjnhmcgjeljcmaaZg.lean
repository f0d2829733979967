/- glob.Ranges answers rangesL. -/
import Derived.Test.YtjnhmcgjeljcmaaMb
namespace Go.Proofs.Ytjnhmcgjeljcmaa
open Go.RowKit

def rgCells (l : List (UInt8 × UInt8)) : List Value := l.flatMap fun r => [.int .u8 r.1.toNat, .int .u8 r.2.toNat]
theorem rgCells_len (l : List (UInt8 × UInt8)) : (rgCells l).length = l.length * 2 := by
  induction l with
  | nil => rfl
  | cons a l ih => simp only [rgCells, List.flatMap_cons, List.length_append, List.length_cons, List.length_nil] at ih ⊢; omega
theorem rgCells_append (a b : List (UInt8 × UInt8)) : rgCells (a ++ b) = rgCells a ++ rgCells b := by simp [rgCells]
theorem rgCells_get (l : List (UInt8 × UInt8)) (i : Nat) (r : UInt8 × UInt8) (h : l[i]? = some r) : (rgCells l)[i * 2]? = some (.int .u8 r.1.toNat) ∧ (rgCells l)[i * 2 + 1]? = some (.int .u8 r.2.toNat) := by
  induction l generalizing i with
  | nil => simp at h
  | cons a l ih =>
    match i with
    | 0 => simp at h; subst h; simp [rgCells]
    | i + 1 =>
      have := ih i (by simpa using h)
      simp only [rgCells, List.flatMap_cons] at this ⊢
      rw [show (i + 1) * 2 = (i * 2) + 1 + 1 by omega]
      simpa using this
theorem rgCells_bump (l : List (UInt8 × UInt8)) (lo hi h2 : UInt8) : (rgCells (l ++ [(lo, hi)])).set (l.length * 2 + 1) (.int .u8 h2.toNat) = rgCells (l ++ [(lo, h2)]) := by
  rw [rgCells_append, rgCells_append, List.set_append_right _ _ (by rw [rgCells_len]; omega), rgCells_len, show l.length * 2 + 1 - l.length * 2 = 1 by omega]
  rfl
theorem bump_snoc (l : List (UInt8 × UInt8)) (lo hi : UInt8) (k : Nat) : bump (l ++ [(lo, hi)]) k = l ++ [(lo, UInt8.ofNat k)] := by
  simp [bump]
theorem rgTo_skip {m : Nat → Bool} {k : Nat} (h : m k = false) : rgTo m (k + 1) = rgTo m k := by rw [rgTo, h]; rfl
theorem rgTo_new {m : Nat → Bool} {k : Nat} (h : m k = true) (h2 : k = 0 ∨ m (k - 1) = false) : rgTo m (k + 1) = rgTo m k ++ [(UInt8.ofNat k, UInt8.ofNat k)] := by
  rw [rgTo, if_pos h, if_neg]
  rcases h2 with h2 | h2
  · simp [h2]
  · simp [h2]
theorem rgTo_bump {m : Nat → Bool} {k : Nat} (h : m (k + 1) = true) (h2 : m k = true) : ∃ l lo, rgTo m (k + 1) = l ++ [(lo, UInt8.ofNat k)] ∧ rgTo m (k + 1 + 1) = l ++ [(lo, UInt8.ofNat (k + 1))] := by
  obtain ⟨l, lo, e⟩ := rgTo_last m k h2
  refine ⟨l, lo, e, ?_⟩
  rw [rgTo, if_pos h, if_pos (by simp [h2]), e, bump_snoc]
theorem rgInfo : (Try.prog.info? 37).map (fun i => (i.zero, i.size, i.bytes)) = some (some (.agg #[.int .u8 0, .int .u8 0]), 2, 2) := by kernel_rfl
theorem two_one (a b : Int) : ∀ u ∈ [Value.int .u8 a, .int .u8 b], u.oneCell' = true := by
  intro u hu; simp at hu; rcases hu with rfl | rfl <;> rfl
theorem own_ne {v : Value} {g G H n cap : Nat} (h : v.ownBlock = some g ∨ g = H) (hv : v.ownBlock ≠ some G) (hH : G ≠ H) : (Value.slice (some ⟨g, 0, none⟩) n cap).ownBlock ≠ some G := by
  simp only [Value.ownBlock, ne_eq, Option.some.injEq]
  rintro rfl
  rcases h with h | h
  · exact hv h
  · exact hH h
theorem own_form {w : World} {B e sz : Nat} {v : Value} {n : Nat} {xs : List Value} (h : w.ownsRow B e sz v n xs) : ∃ ao cap, v = .slice ao n cap := by
  rcases h.2 with ⟨rfl, h0⟩ | ⟨g, cap, cur, rfl, _⟩
  · exact ⟨none, 0, by rw [h0]⟩
  · exact ⟨_, _, rfl⟩
set_option maxHeartbeats 400000 in
set_option maxRecDepth 100000 in
theorem ranges_any (A : Option Addr) (n c : Nat) (rs : List (UInt8 × UInt8)) (neg : Bool) (w : World) (hr : RgAt w (· < w.heap.size) A n rs) (hn : n ≤ maxLen) :
    Calls Try.prog 91 #[.slice A n c, .bool neg] w fun e w' => ∃ v, e = .returned v ∧ w'.ownsRow w.heap.size 37 2 v (rangesL rs neg).length (rgCells (rangesL rs neg)) ∧ Below w.heap.size w w' := by
  obtain ⟨i0, hi0, hz0, hz1, hz2⟩ := info_parts rgInfo
  have hsz : (Try.prog.info? 173).map (·.size) = some 256 := by kernel_rfl
  go_enter Try.func91, Try.ntmps91
  go_wp2_with fail
  refine (members_any A n c rs _ hr hn).mono ?_
  rintro e w1 ⟨rfl, hb1⟩
  go_wp2_with (refine wpList_store_mid rfl 173 (.tmp 6) (.tmp 9) rfl w1.heap.size 0 (rowV 256 fun x => .bool (inR rs x)) rfl rfl (by have := (Blk.new w1 173 Try.zeroCells173).there_; rw [zero72, rowV_size] at this; rw [zero72, rowV_size]; exact this) (by rw [hsz, rowV_size]) (rowV_one _ _ fun _ => rfl) ?_)
  have hblk := (Blk.new w1 173 Try.zeroCells173).setAll (cs := rowV 256 fun x => .bool (inR rs x)) (by rw [zero72, rowV_size, rowV_size])
  have hbw := below_setCells (hb1.alloc hb1.size (.cells Try.zeroCells173 173)) hb1.size 0 (rowV 256 fun x => .bool (inR rs x)).toList
  have hsize : w.heap.size ≤ w1.heap.size := hb1.size
  have hlt0 := hblk.lt
  generalize ((w1.alloc (.cells Try.zeroCells173 173)).setCells w1.heap.size 0 (rowV 256 fun x => .bool (inR rs x)).toList) = W at *
  generalize w1.heap.size = G at *
  clear hb1
  go_loopw [5, 10] (fun v i wr => ∃ k : Nat, k ≤ 256 ∧ i = .int .i64 k ∧ Blk wr G 173 (rowV 256 fun x => .bool (inR rs x)) ∧ wr.ownsRow w.heap.size 37 2 v (rgTo (memB rs neg) k).length (rgCells (rgTo (memB rs neg) k)) ∧ v.ownBlock ≠ some G ∧ Below w.heap.size w wr) (fun _ i _ => 256 - (intOf i).toNat)
  case atStart => exact ⟨0, by omega, rfl, hblk, World.ownsRow_nil _ _ _ _, by simp [Value.ownBlock], hbw⟩
  case round =>
    clear hblk hbw
    obtain ⟨k, hk, rfl, hblk, hown, hne, hbw⟩ := hrel
    have hB := hbw.size
    have hG := hblk.lt
    have hrl := rgTo_length (memB rs neg) k
    by_cases hlt : k < 256
    · have hlt' : (k : Int) < 256 := by omega
      have q1 : wr.cell? ⟨G, k, none⟩ = some (.bool (inR rs k)) := by rw [hblk.cell, rowV_get _ _ _ hlt]
      cases hm : memB rs neg k
      · -- not in: the round is left
        have hx : (inR rs k == neg) = true := by simp only [memB, bne_eq_false_iff_eq] at hm; rw [hm]; simp
        have HS := Lib.hid (rgTo_skip hm)
        clear hm
        obtain ⟨ao, cap, hv⟩ := own_form hown
        subst hv
        go_wp2
        go_roundw
        case rel => exact ⟨k + 1, by omega, by go_num, hblk, by rw [HS.out]; exact hown, hne, hbw⟩
        case measure => simp [intOf]; omega
      · have hx : (inR rs k == neg) = false := by simp only [memB, bne_iff_ne, ne_eq] at hm; simpa using hm
        have hku : ((UInt8.ofNat k).toNat : Int) = k := by simp; omega
        have HKU := Lib.hid hku
        clear hku
        by_cases hnew : k = 0 ∨ memB rs neg (k - 1) = false
        · have HS := Lib.hid (rgTo_new hm hnew)
          clear hm
          have hways : k = 0 ∨ (0 < k ∧ (inR rs (k - 1) == neg) = true) := by
            rcases Nat.eq_zero_or_pos k with h | h
            · exact Or.inl h
            · rcases hnew with h2 | h2
              · omega
              · exact Or.inr ⟨h, by simpa [memB] using h2⟩
          clear hnew
          obtain ⟨ao, cap, hv⟩ := own_form hown
          subst hv
          rcases hways with h0 | ⟨h0, h2⟩
          · subst h0
            go_wp2_with (at_builtin; refine wpList_append_lies _ rfl (.tmp 36) (.tmp 42) 23 rfl w.heap.size 37 i0 _ 2 2 Try.underlying23 hi0 hz0 hz1 hz2 rfl (by decide) _ _ _ rfl (hown.alloc _) ⟨wr.heap.size, 0, none⟩ 1 1 [.int .u8 0, .int .u8 0] rfl rfl (World.news_of_block (heap_alloc_new wr _)) (two_one _ _) (by decide) (by unfold maxLen; omega) (by omega) (by simp; omega) _ rfl ?_)
            intro g cap2 w2 hown2 hgrow hat hlt2
            go_wp2
            go_roundw
            case rel =>
              refine ⟨0 + 1, by omega, by go_num, (hblk.alloc _).grown hgrow (fun e => hne e.symm), ?_, own_ne hat hne (by simp; omega), (hbw.alloc hB _).grown hgrow (by simp; omega) (fun j hj => (hown.lt j hj).1)⟩
              rw [HS.out, rgCells_append, List.length_append]
              exact hown2
            case measure => simp [intOf]
          · have hi1 : ((k : Int) - 1).toNat = k - 1 := by omega
            have q2 : wr.cell? ⟨G, k - 1, none⟩ = some (.bool (inR rs (k - 1))) := by rw [hblk.cell, rowV_get _ _ _ (by omega)]
            go_wp2_with (at_builtin; refine wpList_append_lies _ rfl (.tmp 36) (.tmp 42) 23 rfl w.heap.size 37 i0 _ 2 2 Try.underlying23 hi0 hz0 hz1 hz2 rfl (by decide) _ _ _ rfl (hown.alloc _) ⟨wr.heap.size, 0, none⟩ 1 1 [.int .u8 k, .int .u8 k] rfl rfl (World.news_of_block (heap_alloc_new wr _)) (two_one _ _) (by decide) (by unfold maxLen; omega) (by omega) (by simp; omega) _ rfl ?_)
            intro g cap2 w2 hown2 hgrow hat hlt2
            go_wp2
            go_roundw
            case rel =>
              refine ⟨k + 1, by omega, by go_num, (hblk.alloc _).grown hgrow (fun e => hne e.symm), ?_, own_ne hat hne (by simp; omega), (hbw.alloc hB _).grown hgrow (by simp; omega) (fun j hj => (hown.lt j hj).1)⟩
              rw [HS.out, rgCells_append, List.length_append]
              rw [show rgCells [(UInt8.ofNat k, UInt8.ofNat k)] = [.int .u8 (k : Int), .int .u8 (k : Int)] by simp only [rgCells, List.flatMap_cons, List.flatMap_nil, HKU.out]; rfl]
              exact hown2
            case measure => simp [intOf]; omega
        · have h0 : 0 < k := by omega
          have h2m : memB rs neg (k - 1) = true := by
            cases h3 : memB rs neg (k - 1)
            · exact absurd (Or.inr h3) hnew
            · rfl
          have h2 : (inR rs (k - 1) == neg) = false := by simpa [memB] using h2m
          clear hnew
          have hi1 : ((k : Int) - 1).toNat = k - 1 := by omega
          have q2 : wr.cell? ⟨G, k - 1, none⟩ = some (.bool (inR rs (k - 1))) := by rw [hblk.cell, rowV_get _ _ _ (by omega)]
          obtain ⟨l, lo, e1, e2⟩ := rgTo_bump (m := memB rs neg) (k := k - 1) (by rw [Nat.sub_add_cancel h0]; exact hm) h2m
          clear h2m
          rw [Nat.sub_add_cancel h0] at e1 e2
          rw [e1] at hown hrl
          clear hm
          have HE2 := Lib.hid e2
          clear e1 e2
          obtain ⟨g, cap, rfl, hg0, hg1⟩ := hown.form (by simp)
          have hc1 : wr.cell? ⟨g, l.length * 2 + 1, none⟩ = some (.int .u8 (UInt8.ofNat (k - 1)).toNat) := by
            rw [hown.cellAt _ (by simp; omega)]
            exact (rgCells_get (l ++ [(lo, UInt8.ofNat (k - 1))]) l.length (lo, UInt8.ofNat (k - 1)) (by simp)).2
          have hf1 : wr.frozen? ⟨g, l.length * 2 + 1, none⟩ = false := hown.frozenAt _
          have hll : (l ++ [(lo, UInt8.ofNat (k - 1))]).length = l.length + 1 := by simp
          rw [hll] at hown hrl ⊢
          have hst := hown.stored (l.length * 2 + 1) (.int .u8 (UInt8.ofNat k).toNat)
          rw [rgCells_bump] at hst
          have HST := Lib.hid hst
          clear hst
          have hgG : G ≠ g := fun e => hne (by rw [e]; rfl)
          go_wp2
          go_roundw
          case rel =>
            refine ⟨k + 1, by omega, by go_num, hblk.far hgG _, ?_, hne, hbw.setCell hg0 _⟩
            rw [HE2.out, List.length_append]
            have h4 := HST.out.1
            rw [HKU.out] at h4
            exact h4
          case measure => simp [intOf]; omega
    · obtain rfl : k = 256 := by omega
      obtain ⟨ao, cap, hv⟩ := own_form hown
      subst hv
      go_wp2
      go_ret
      exact ⟨_, rfl, hown, hbw⟩
end Go.Proofs.Ytjnhmcgjeljcmaa
