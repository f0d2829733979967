/- The reference's In and Ranges: inR, rangesL. -/
import Derived.Test.YtjnhmcgjeljcmaaZg
import Derived.Deep.RegionHeld3
import Derived.IntWalk
namespace Go.Proofs.Ytjnhmcgjeljcmaa
open Go.RowKit

theorem inR_take_succ (rs : List (UInt8 × UInt8)) (k : Nat) (h : k < rs.length) (c : Nat) : inR (rs.take (k + 1)) c = (inR (rs.take k) c || (decide (rs[k].1.toNat ≤ c) && decide (c ≤ rs[k].2.toNat))) := by
  rw [List.take_succ_eq_append_getElem h]
  simp only [inR, List.any_append, List.any_cons, List.any_nil, Bool.or_false]
theorem rgTo_hi {m : Nat → Bool} : ∀ {k : Nat}, k ≤ 256 → ∀ {l : List (UInt8 × UInt8)} {r : UInt8 × UInt8}, rgTo m k = l ++ [r] → r.2.toNat < k
  | 0, _, l, r, h => by simp [rgTo] at h
  | k + 1, hk, l, r, h => by
    cases hm : m k
    · rw [rgTo_skip hm] at h
      have := rgTo_hi (by omega) h; omega
    · obtain ⟨l', lo, e⟩ := rgTo_last m k hm
      rw [e] at h
      have := List.append_inj_right' h rfl
      simp at this
      rw [← this]
      simp; omega
theorem rgTo_ways {m : Nat → Bool} {k : Nat} (hk : k < 256) (h : m k = true) :
    (rgTo m k = [] ∧ rgTo m (k + 1) = [(UInt8.ofNat k, UInt8.ofNat k)]) ∨
    (∃ l lo hi, rgTo m k = l ++ [(lo, hi)] ∧ hi.toNat + 1 = k ∧ rgTo m (k + 1) = l ++ [(lo, UInt8.ofNat k)]) ∨
    (∃ l lo hi, rgTo m k = l ++ [(lo, hi)] ∧ hi.toNat + 1 ≠ k ∧ rgTo m (k + 1) = (l ++ [(lo, hi)]) ++ [(UInt8.ofNat k, UInt8.ofNat k)]) := by
  match k, hk, h with
  | 0, _, h => left; exact ⟨rfl, by rw [rgTo_new h (Or.inl rfl)]; rfl⟩
  | k + 1, hk, h =>
    cases hm : m k
    · have e := rgTo_new h (Or.inr hm)
      rcases List.eq_nil_or_concat (rgTo m (k + 1)) with h0 | ⟨l, r, h1⟩
      · left; exact ⟨h0, by rw [e, h0]; rfl⟩
      · right; right
        obtain ⟨lo, hi⟩ := r
        rw [List.concat_eq_append] at h1
        refine ⟨l, lo, hi, h1, ?_, by rw [e, h1]⟩
        rw [rgTo_skip hm] at h1
        have := rgTo_hi (by omega) h1
        simp at this; omega
    · obtain ⟨l, lo, e1, e2⟩ := rgTo_bump h hm
      right; left
      exact ⟨l, lo, _, e1, by simp; omega, e2⟩
theorem inR_of (rs : List (UInt8 × UInt8)) (k : Nat) (h : k < rs.length) (c : Nat) (h1 : rs[k].1.toNat ≤ c) (h2 : c ≤ rs[k].2.toNat) : inR rs c = true := by
  unfold inR
  rw [List.any_eq_true]
  exact ⟨rs[k], List.getElem_mem h, by simp [h1, h2]⟩
set_option maxHeartbeats 400000 in
set_option maxRecDepth 100000 in
theorem in_any (A : Option Addr) (n cp : Nat) (rs : List (UInt8 × UInt8)) (c : Nat) (w : World) (hr : RgAt w (· < w.heap.size) A n rs) (hn : n ≤ maxLen) (_ : c ≤ 255) :
    Calls Try.prog 101 #[.slice A n cp, .int .i64 (c : Nat)] w fun e w' => e = .returned (.bool (inR rs c)) ∧ w = w' := by
  unfold maxLen at hn
  go_enter Try.func101, Try.ntmps101
  go_wp2_with fail
  go_loop [5] (fun i => ∃ k : Nat, k ≤ n ∧ i = .int .i64 k ∧ inR (rs.take k) c = false) (fun i => n - (intOf i).toNat)
  case atStart => exact ⟨0, Nat.zero_le _, rfl, by simp [inR]⟩
  case round =>
    obtain ⟨k, hk, rfl, hno⟩ := hrel
    have HN := Lib.hid hno
    clear hno
    by_cases hlt : k < n
    · have hlt' : (k : Int) < (n : Int) := by omega
      have hkr : k < rs.length := by have := hr.1; omega
      obtain ⟨b, o, rfl, hX, hcells⟩ := hr.2 (by omega)
      obtain ⟨e1, e2⟩ := hcells k (rs[k]) (List.getElem?_eq_getElem hkr)
      clear hcells
      have HS := Lib.hid (inR_take_succ rs k hkr c)
      have HO := Lib.hid (inR_of rs k hkr c)
      generalize rs[k] = r at *
      obtain ⟨lo, hi⟩ := r
      simp only at e1 e2
      have hlo := UInt8.toNat_lt lo
      have hhi := UInt8.toNat_lt hi
      by_cases h1 : lo.toNat ≤ c
      · by_cases h2 : c ≤ hi.toNat
        · have HR := Lib.hid (HO.out h1 h2)
          have h1' : (lo.toNat : Int) ≤ (c : Int) := by omega
          have h2' : (c : Int) ≤ (hi.toNat : Int) := by omega
          go_wp2
          go_ret
          exact ⟨ret_bool HR.out.symm, rfl⟩
        · have h1' : (lo.toNat : Int) ≤ (c : Int) := by omega
          have h2' : ¬ (c : Int) ≤ (hi.toNat : Int) := by omega
          go_wp2
          go_round
          case rel => exact ⟨k + 1, by omega, by go_num, by rw [HS.out, HN.out]; simp [h2]⟩
          case measure => simp [intOf]; omega
      · have h1' : ¬ (lo.toNat : Int) ≤ (c : Int) := by omega
        go_wp2
        go_round
        case rel => exact ⟨k + 1, by omega, by go_num, by rw [HS.out, HN.out]; simp [h1]⟩
        case measure => simp [intOf]; omega
    · obtain rfl : n = k := by omega
      have HR := Lib.hid (show inR rs c = false by rw [← HN.out, List.take_of_length_le (by have := hr.1; omega)])
      go_wp2
      go_ret
      exact ⟨ret_bool HR.out.symm, rfl⟩

theorem own_shrink {w : World} {B e sz g n m cap : Nat} {xs : List Value} (h : w.ownsRow B e sz (.slice (some ⟨g, 0, none⟩) n cap) n xs) (hm : m ≤ n) : w.ownsRow B e sz (.slice (some ⟨g, 0, none⟩) m cap) m (xs.take (m * sz)) := by
  rcases h with ⟨hl, ⟨h0, _⟩ | ⟨g', cap', cur, hv, h1, h2, h3, h4, h5, h6⟩⟩
  · cases h0
  · injection hv with hv1 hv2 hv3
    injection hv1 with hv1
    injection hv1 with hv1
    subst hv1 hv3
    have hms : m * sz ≤ n * sz := Nat.mul_le_mul_right _ hm
    refine ⟨by rw [List.length_take, hl, Nat.min_eq_left hms], Or.inr ⟨g, cap, cur, rfl, h1, h2, by omega, h4, h5, ?_⟩⟩
    rw [← h6, List.take_take, Nat.min_eq_left hms]
theorem heap_alloc_new2 (w : World) (a b : Obj) : ((w.alloc a).alloc b).heap[w.heap.size + 1]? = some b := by
  have := heap_alloc_new (w.alloc a) b
  simpa using this
theorem keep_last {wr w2 : World} {x y : Value} {t : TypeId} {b : Obj} {row : Option Nat} (hg : (((wr.alloc (.cells #[x, y] t)).alloc b).drew).grownBy w2 row) (hne : some wr.heap.size ≠ row) : w2.cell? ⟨wr.heap.size, 0, none⟩ = some x := by
  have h1 : Blk (((wr.alloc (.cells #[x, y] t)).alloc b).drew) wr.heap.size t #[x, y] := (Blk.new wr t #[x, y]).alloc b
  exact (h1.grown hg hne).cell 0
set_option maxHeartbeats 1000000 in
set_option maxRecDepth 100000 in
theorem rranges_any (A : Option Addr) (n c : Nat) (rs : List (UInt8 × UInt8)) (neg : Bool) (w : World) (hr : RgAt w (· < w.heap.size) A n rs) (hn : n ≤ maxLen) :
    Calls Try.prog 98 #[.slice A n c, .bool neg] w fun e w' => ∃ v, e = .returned v ∧ w'.ownsRow w.heap.size 37 2 v (rangesL rs neg).length (rgCells (rangesL rs neg)) ∧ Below w.heap.size w w' := by
  obtain ⟨i0, hi0, hz0, hz1, hz2⟩ := info_parts rgInfo
  go_enter Try.func98, Try.ntmps98
  go_wp2_with fail
  go_loopw [5, 6] (fun v i wr => ∃ k : Nat, k ≤ 256 ∧ i = .int .i64 k ∧ wr.ownsRow w.heap.size 37 2 v (rgTo (memB rs neg) k).length (rgCells (rgTo (memB rs neg) k)) ∧ Below w.heap.size w wr) (fun _ i _ => 256 - (intOf i).toNat)
  case atStart => exact ⟨0, by omega, rfl, ⟨rfl, Or.inr ⟨w.heap.size, 0, #[], rfl, Nat.le_refl _, heap_alloc_new w _, Nat.le_refl _, Nat.zero_le _, rfl, rfl⟩⟩, (Below.refl _ w).alloc (Nat.le_refl _) _⟩
  case round =>
    obtain ⟨k, hk, rfl, hown, hbw⟩ := hrel
    have hB := hbw.size
    have hrl := rgTo_length (memB rs neg) k
    by_cases hlt : k < 256
    · have hlt' : (k : Int) < 256 := by omega
      have hr2 : RgAt wr (· < wr.heap.size) A n rs := (hr.keep (fun i hi => hbw.block i hi)).mono fun i hi => Nat.lt_of_lt_of_le hi hB
      have HIN := Lib.hid (in_any A n c rs k wr hr2 hn (by omega))
      have hku : ((UInt8.ofNat k).toNat : Int) = k := by simp; omega
      have HKU := Lib.hid hku
      clear hku hr2
      cases hm : memB rs neg k
      · have hx : (inR rs k == neg) = true := by simp only [memB, bne_eq_false_iff_eq] at hm; rw [hm]; simp
        have HS := Lib.hid (rgTo_skip hm)
        clear hm
        obtain ⟨ao, cap, hv⟩ := own_form hown
        subst hv
        go_wp2_with fail
        refine HIN.out.mono ?_
        rintro e w2 ⟨rfl, rfl⟩
        go_wp2
        go_roundw
        case rel => exact ⟨k + 1, by omega, by go_num, by rw [HS.out]; exact hown, hbw⟩
        case measure => simp [intOf]; omega
      · have hx : (inR rs k == neg) = false := by simp only [memB, bne_iff_ne, ne_eq] at hm; simpa using hm
        have hways := rgTo_ways hlt hm
        clear hm
        rcases hways with ⟨e1, e2⟩ | ⟨l, lo, hi, e1, e3, e2⟩ | ⟨l, lo, hi, e1, e3, e2⟩
        · have HE := Lib.hid e2
          rw [e1] at hown
          clear e1 e2
          obtain ⟨ao, cap, hv⟩ := own_form hown
          subst hv
          go_wp2_with fail
          refine HIN.out.mono ?_
          rintro e w2 ⟨rfl, rfl⟩
          go_wp2_with (at_builtin; refine wpList_append_lies _ rfl (.tmp 52) (.tmp 58) 23 rfl w.heap.size 37 i0 _ 2 2 Try.underlying23 hi0 hz0 hz1 hz2 rfl (by decide) _ _ _ rfl (hown.alloc _) ⟨wr.heap.size, 0, none⟩ 1 1 [.int .u8 k, .int .u8 k] rfl rfl (World.news_of_block (heap_alloc_new wr _)) (two_one _ _) (by decide) (by unfold maxLen; simp) (by simp) (by simp; omega) _ rfl ?_)
          intro g cap2 w2 hown2 hgrow hat hlt2
          go_wp2
          go_roundw
          case rel =>
            refine ⟨k + 1, by omega, by go_num, ?_, (hbw.alloc hB _).grown hgrow (by simp; omega) (fun j hj => (hown.lt j hj).1)⟩
            rw [HE.out]
            rw [show rgCells [(UInt8.ofNat k, UInt8.ofNat k)] = [.int .u8 (k : Int), .int .u8 (k : Int)] by simp only [rgCells, List.flatMap_cons, List.flatMap_nil, HKU.out]; rfl]
            exact hown2
          case measure => simp [intOf]; omega
        · have HE := Lib.hid e2
          have e3' : ((hi.toNat : Int) == (k : Int) - 1) = true := by simp; omega
          rw [e1] at hown hrl
          clear e1 e2 e3
          obtain ⟨g, cap, rfl, hg0, hg1⟩ := hown.form (by simp)
          obtain ⟨q0, q1⟩ := rgCells_get (l ++ [(lo, hi)]) l.length (lo, hi) (by simp)
          have hc0 : wr.cell? ⟨g, l.length * 2, none⟩ = some (.int .u8 lo.toNat) := by rw [hown.cellAt _ (by simp)]; exact q0
          have hc1 : wr.cell? ⟨g, l.length * 2 + 1, none⟩ = some (.int .u8 hi.toNat) := by rw [hown.cellAt _ (by simp; omega)]; exact q1
          clear q0 q1
          have hll : (l ++ [(lo, hi)]).length = l.length + 1 := by simp
          have hcap : l.length + 1 ≤ cap := by
            rcases hown.2 with ⟨h, _⟩ | ⟨g', cap', cur, h, _, _, h4, _⟩
            · cases h
            · injection h with _ _ h5; simp at h4; omega
          have hsh := own_shrink hown (m := l.length) (by simp)
          rw [rgCells_append, List.take_append_of_le_length (by rw [rgCells_len]; exact Nat.le_refl _), List.take_of_length_le (by rw [rgCells_len]; exact Nat.le_refl _)] at hsh
          rw [hll] at hown hrl ⊢
          have hhi := UInt8.toNat_lt hi
          have hs0 : (0 : Int) ≤ (l.length : Int) := by omega
          have hs1 : (l.length : Int) ≤ (cap : Int) := by omega
          have hs2 : ((l.length : Int) + 1 - 1) = l.length := by omega
          have hs3 : IntKind.i64.wrap (l.length : Int) = l.length := IntWalk.i64_in _ (by omega)
          have hs8 : IntKind.u8.wrap (k : Int) = k := IntWalk.u8_in _ (by omega)
          have hgne : some wr.heap.size ≠ (Value.slice (some ⟨g, 0, none⟩) l.length cap).ownBlock := by simp [Value.ownBlock]; omega
          have hs4 : ¬ cap = 0 := by omega
          have hs5 : l.length ≤ cap := by omega
          have hs6 : (cap == 0) = false := by simp; omega
          have hs7 : ∀ W : World, (Instr.sliceAt 23 (.slice (some ⟨g, 0, none⟩) (l.length + 1) cap) none (some (.int .i64 (l.length : Int))) none).run Try.prog W = .ok (.slice (some ⟨g, 0, none⟩) l.length cap) W := by
            intro W
            have h1 := run_slice_h (P := Try.prog) W 23 (some ⟨g, 0, none⟩) (l.length + 1) cap (by kernel_rfl) .i64 (l.length : Int) hs0 hs1
            simp only [go_sem] at h1 ⊢
            go_simp
          go_wp2_with fail
          refine HIN.out.mono ?_
          rintro e w2 ⟨rfl, rfl⟩
          go_wp2
          go_region_held3 (fun W => W.cell? ⟨wr.heap.size, 0, none⟩ = some (.int .u8 lo.toNat)) (go_keep)
            ((refine step_append_lies _ (by rfl) (.tmp 44) (.tmp 50) 23 (by rfl) w.heap.size 37 i0 _ 2 2 Try.underlying23 hi0 hz0 hz1 hz2 rfl (by decide) _ l.length (rgCells l) (by rfl) (by exact (hsh.alloc _).alloc _) ⟨wr.heap.size + 1, 0, none⟩ 1 1 [.int .u8 lo.toNat, .int .u8 k] (by rfl) rfl (by exact World.news_of_block (by exact heap_alloc_new2 wr _ _)) (two_one _ _) (by decide) (by unfold maxLen; omega) (by omega) (by simp; omega) _ (by rfl) ?_; intro g2 cap2 w2 hown2 hgrow hat hlt2; have hk2 := keep_last hgrow hgne))
          go_wp2
          go_roundw
          case rel =>
            refine ⟨k + 1, by omega, by go_num, ?_, ((hbw.alloc hB _).alloc (by simp; omega) _).drew.grown hgrow (by simp; omega) (fun j hj => (hsh.lt j hj).1)⟩
            rw [HE.out, rgCells_append, List.length_append]
            rw [show rgCells [(lo, UInt8.ofNat k)] = [.int .u8 (lo.toNat : Int), .int .u8 (k : Int)] by simp only [rgCells, List.flatMap_cons, List.flatMap_nil, HKU.out]; rfl]
            exact hown2
          case measure => simp [intOf]; omega
        · have HE := Lib.hid e2
          have e3' : ((hi.toNat : Int) == (k : Int) - 1) = false := by simp; omega
          rw [e1] at hown hrl
          clear e1 e2 e3
          obtain ⟨g, cap, rfl, hg0, hg1⟩ := hown.form (by simp)
          have hc1 : wr.cell? ⟨g, l.length * 2 + 1, none⟩ = some (.int .u8 hi.toNat) := by
            rw [hown.cellAt _ (by simp; omega)]
            exact (rgCells_get (l ++ [(lo, hi)]) l.length (lo, hi) (by simp)).2
          have hll : (l ++ [(lo, hi)]).length = l.length + 1 := by simp
          rw [hll] at hown hrl ⊢
          have hhi := UInt8.toNat_lt hi
          go_wp2_with fail
          refine HIN.out.mono ?_
          rintro e w2 ⟨rfl, rfl⟩
          go_wp2_with (at_builtin; refine wpList_append_lies _ rfl (.tmp 52) (.tmp 58) 23 rfl w.heap.size 37 i0 _ 2 2 Try.underlying23 hi0 hz0 hz1 hz2 rfl (by decide) _ _ _ rfl (hown.alloc _) ⟨wr.heap.size, 0, none⟩ 1 1 [.int .u8 k, .int .u8 k] rfl rfl (World.news_of_block (heap_alloc_new wr _)) (two_one _ _) (by decide) (by unfold maxLen; omega) (by omega) (by simp; omega) _ rfl ?_)
          intro g2 cap2 w2 hown2 hgrow hat hlt2
          go_wp2
          go_roundw
          case rel =>
            refine ⟨k + 1, by omega, by go_num, ?_, (hbw.alloc hB _).grown hgrow (by simp; omega) (fun j hj => (hown.lt j hj).1)⟩
            rw [HE.out, rgCells_append _ [(UInt8.ofNat k, UInt8.ofNat k)], List.length_append, hll]
            rw [show rgCells [(UInt8.ofNat k, UInt8.ofNat k)] = [.int .u8 (k : Int), .int .u8 (k : Int)] by simp only [rgCells, List.flatMap_cons, List.flatMap_nil, HKU.out]; rfl]
            exact hown2
          case measure => simp [intOf]; omega
    · obtain rfl : k = 256 := by omega
      obtain ⟨ao, cap, hv⟩ := own_form hown
      subst hv
      go_wp2
      go_ret
      exact ⟨_, rfl, hown, hbw⟩
end Go.Proofs.Ytjnhmcgjeljcmaa
