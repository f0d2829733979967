/- The reference's In and Ranges: inR, rangesL. Rows of ranges in memory. -/
import Derived.Test.YtjnhmcgjeljcmaaZg
import Derived.Deep.RegionHeld3
import Derived.IntWalk
import Derived.Test.YtjnhmcgjeljcmaaGp
import Derived.Maps.AppendAt
import Derived.Laws.AppendOwnNone
namespace Go.Proofs.Ytjnhmcgjeljcmaa
open Go.RowKit

theorem inR_take_succ (rs : List (UInt8 × UInt8)) (k : Nat) (h : k < rs.length) (c : Nat) : inR (rs.take (k + 1)) c = (inR (rs.take k) c || (decide (rs[k].1.toNat ≤ c) && decide (c ≤ rs[k].2.toNat))) := by
  rw [List.take_succ_eq_append_getElem h]
  simp only [inR, List.any_append, List.any_cons, List.any_nil, Bool.or_false]
theorem rgTo_hi {m : Nat → Bool} : ∀ {k : Nat}, k ≤ 256 → ∀ {l : List (UInt8 × UInt8)} {r : UInt8 × UInt8}, rgTo m k = l ++ [r] → r.2.toNat < k
  | 0, _, l, r, h => by simp [rgTo] at h
  | k + 1, hk, l, r, h => by
    cases hm : m k
    · rw [rgTo_skip hm] at h
      have := rgTo_hi (by omega) h; omega
    · obtain ⟨l', lo, e⟩ := rgTo_last m k hm
      rw [e] at h
      have := List.append_inj_right' h rfl
      simp at this
      rw [← this]
      simp; omega
theorem rgTo_ways {m : Nat → Bool} {k : Nat} (hk : k < 256) (h : m k = true) :
    (rgTo m k = [] ∧ rgTo m (k + 1) = [(UInt8.ofNat k, UInt8.ofNat k)]) ∨
    (∃ l lo hi, rgTo m k = l ++ [(lo, hi)] ∧ hi.toNat + 1 = k ∧ rgTo m (k + 1) = l ++ [(lo, UInt8.ofNat k)]) ∨
    (∃ l lo hi, rgTo m k = l ++ [(lo, hi)] ∧ hi.toNat + 1 ≠ k ∧ rgTo m (k + 1) = (l ++ [(lo, hi)]) ++ [(UInt8.ofNat k, UInt8.ofNat k)]) := by
  match k, hk, h with
  | 0, _, h => left; exact ⟨rfl, by rw [rgTo_new h (Or.inl rfl)]; rfl⟩
  | k + 1, hk, h =>
    cases hm : m k
    · have e := rgTo_new h (Or.inr hm)
      rcases List.eq_nil_or_concat (rgTo m (k + 1)) with h0 | ⟨l, r, h1⟩
      · left; exact ⟨h0, by rw [e, h0]; rfl⟩
      · right; right
        obtain ⟨lo, hi⟩ := r
        rw [List.concat_eq_append] at h1
        refine ⟨l, lo, hi, h1, ?_, by rw [e, h1]⟩
        rw [rgTo_skip hm] at h1
        have := rgTo_hi (by omega) h1
        simp at this; omega
    · obtain ⟨l, lo, e1, e2⟩ := rgTo_bump h hm
      right; left
      exact ⟨l, lo, _, e1, by simp; omega, e2⟩
theorem inR_of (rs : List (UInt8 × UInt8)) (k : Nat) (h : k < rs.length) (c : Nat) (h1 : rs[k].1.toNat ≤ c) (h2 : c ≤ rs[k].2.toNat) : inR rs c = true := by
  unfold inR
  rw [List.any_eq_true]
  exact ⟨rs[k], List.getElem_mem h, by simp [h1, h2]⟩
set_option maxHeartbeats 400000 in
set_option maxRecDepth 100000 in
theorem in_any (A : Option Addr) (n cp : Nat) (rs : List (UInt8 × UInt8)) (c : Nat) (w : World) (hr : RgAt w (· < w.heap.size) A n rs) (hn : n ≤ maxLen) (_ : c ≤ 255) :
    Calls Try.prog 101 #[.slice A n cp, .int .i64 (c : Nat)] w fun e w' => e = .returned (.bool (inR rs c)) ∧ w = w' := by
  unfold maxLen at hn
  go_enter Try.func101, Try.ntmps101
  go_wp2_with fail
  go_loop [5] (fun i => ∃ k : Nat, k ≤ n ∧ i = .int .i64 k ∧ inR (rs.take k) c = false) (fun i => n - (intOf i).toNat)
  case atStart => exact ⟨0, Nat.zero_le _, rfl, by simp [inR]⟩
  case round =>
    obtain ⟨k, hk, rfl, hno⟩ := hrel
    have HN := Lib.hid hno
    clear hno
    by_cases hlt : k < n
    · have hlt' : (k : Int) < (n : Int) := by omega
      have hkr : k < rs.length := by have := hr.1; omega
      obtain ⟨b, o, rfl, hX, hcells⟩ := hr.2 (by omega)
      obtain ⟨e1, e2⟩ := hcells k (rs[k]) (List.getElem?_eq_getElem hkr)
      clear hcells
      have HS := Lib.hid (inR_take_succ rs k hkr c)
      have HO := Lib.hid (inR_of rs k hkr c)
      generalize rs[k] = r at *
      obtain ⟨lo, hi⟩ := r
      simp only at e1 e2
      have hlo := UInt8.toNat_lt lo
      have hhi := UInt8.toNat_lt hi
      by_cases h1 : lo.toNat ≤ c
      · by_cases h2 : c ≤ hi.toNat
        · have HR := Lib.hid (HO.out h1 h2)
          have h1' : (lo.toNat : Int) ≤ (c : Int) := by omega
          have h2' : (c : Int) ≤ (hi.toNat : Int) := by omega
          go_wp2
          go_ret
          exact ⟨ret_bool HR.out.symm, rfl⟩
        · have h1' : (lo.toNat : Int) ≤ (c : Int) := by omega
          have h2' : ¬ (c : Int) ≤ (hi.toNat : Int) := by omega
          go_wp2
          go_round
          case rel => exact ⟨k + 1, by omega, by go_num, by rw [HS.out, HN.out]; simp [h2]⟩
          case measure => simp [intOf]; omega
      · have h1' : ¬ (lo.toNat : Int) ≤ (c : Int) := by omega
        go_wp2
        go_round
        case rel => exact ⟨k + 1, by omega, by go_num, by rw [HS.out, HN.out]; simp [h1]⟩
        case measure => simp [intOf]; omega
    · obtain rfl : n = k := by omega
      have HR := Lib.hid (show inR rs c = false by rw [← HN.out, List.take_of_length_le (by have := hr.1; omega)])
      go_wp2
      go_ret
      exact ⟨ret_bool HR.out.symm, rfl⟩

theorem own_shrink {w : World} {B e sz g n m cap : Nat} {xs : List Value} (h : w.ownsRow B e sz (.slice (some ⟨g, 0, none⟩) n cap) n xs) (hm : m ≤ n) : w.ownsRow B e sz (.slice (some ⟨g, 0, none⟩) m cap) m (xs.take (m * sz)) := by
  rcases h with ⟨hl, ⟨h0, _⟩ | ⟨g', cap', cur, hv, h1, h2, h3, h4, h5, h6⟩⟩
  · cases h0
  · injection hv with hv1 hv2 hv3
    injection hv1 with hv1
    injection hv1 with hv1
    subst hv1 hv3
    have hms : m * sz ≤ n * sz := Nat.mul_le_mul_right _ hm
    refine ⟨by rw [List.length_take, hl, Nat.min_eq_left hms], Or.inr ⟨g, cap, cur, rfl, h1, h2, by omega, h4, h5, ?_⟩⟩
    rw [← h6, List.take_take, Nat.min_eq_left hms]
theorem heap_alloc_new2 (w : World) (a b : Obj) : ((w.alloc a).alloc b).heap[w.heap.size + 1]? = some b := by
  have := heap_alloc_new (w.alloc a) b
  simpa using this
theorem keep_last {wr w2 : World} {x y : Value} {t : TypeId} {b : Obj} {row : Option Nat} (hg : (((wr.alloc (.cells #[x, y] t)).alloc b).drew).grownBy w2 row) (hne : some wr.heap.size ≠ row) : w2.cell? ⟨wr.heap.size, 0, none⟩ = some x := by
  have h1 : Blk (((wr.alloc (.cells #[x, y] t)).alloc b).drew) wr.heap.size t #[x, y] := (Blk.new wr t #[x, y]).alloc b
  exact (h1.grown hg hne).cell 0
set_option maxHeartbeats 1000000 in
set_option maxRecDepth 100000 in
theorem rranges_any (A : Option Addr) (n c : Nat) (rs : List (UInt8 × UInt8)) (neg : Bool) (w : World) (hr : RgAt w (· < w.heap.size) A n rs) (hn : n ≤ maxLen) :
    Calls Try.prog 98 #[.slice A n c, .bool neg] w fun e w' => ∃ v, e = .returned v ∧ w'.ownsRow w.heap.size 37 2 v (rangesL rs neg).length (rgCells (rangesL rs neg)) ∧ Below w.heap.size w w' := by
  obtain ⟨i0, hi0, hz0, hz1, hz2⟩ := info_parts rgInfo
  go_enter Try.func98, Try.ntmps98
  go_wp2_with fail
  go_loopw [5, 6] (fun v i wr => ∃ k : Nat, k ≤ 256 ∧ i = .int .i64 k ∧ wr.ownsRow w.heap.size 37 2 v (rgTo (memB rs neg) k).length (rgCells (rgTo (memB rs neg) k)) ∧ Below w.heap.size w wr) (fun _ i _ => 256 - (intOf i).toNat)
  case atStart => exact ⟨0, by omega, rfl, ⟨rfl, Or.inr ⟨w.heap.size, 0, #[], rfl, Nat.le_refl _, heap_alloc_new w _, Nat.le_refl _, Nat.zero_le _, rfl, rfl⟩⟩, (Below.refl _ w).alloc (Nat.le_refl _) _⟩
  case round =>
    obtain ⟨k, hk, rfl, hown, hbw⟩ := hrel
    have hB := hbw.size
    have hrl := rgTo_length (memB rs neg) k
    by_cases hlt : k < 256
    · have hlt' : (k : Int) < 256 := by omega
      have hr2 : RgAt wr (· < wr.heap.size) A n rs := (hr.keep (fun i hi => hbw.block i hi)).mono fun i hi => Nat.lt_of_lt_of_le hi hB
      have HIN := Lib.hid (in_any A n c rs k wr hr2 hn (by omega))
      have hku : ((UInt8.ofNat k).toNat : Int) = k := by simp; omega
      have HKU := Lib.hid hku
      clear hku hr2
      cases hm : memB rs neg k
      · have hx : (inR rs k == neg) = true := by simp only [memB, bne_eq_false_iff_eq] at hm; rw [hm]; simp
        have HS := Lib.hid (rgTo_skip hm)
        clear hm
        obtain ⟨ao, cap, hv⟩ := own_form hown
        subst hv
        go_wp2_with fail
        refine HIN.out.mono ?_
        rintro e w2 ⟨rfl, rfl⟩
        go_wp2
        go_roundw
        case rel => exact ⟨k + 1, by omega, by go_num, by rw [HS.out]; exact hown, hbw⟩
        case measure => simp [intOf]; omega
      · have hx : (inR rs k == neg) = false := by simp only [memB, bne_iff_ne, ne_eq] at hm; simpa using hm
        have hways := rgTo_ways hlt hm
        clear hm
        rcases hways with ⟨e1, e2⟩ | ⟨l, lo, hi, e1, e3, e2⟩ | ⟨l, lo, hi, e1, e3, e2⟩
        · have HE := Lib.hid e2
          rw [e1] at hown
          clear e1 e2
          obtain ⟨ao, cap, hv⟩ := own_form hown
          subst hv
          go_wp2_with fail
          refine HIN.out.mono ?_
          rintro e w2 ⟨rfl, rfl⟩
          go_wp2_with (at_builtin; refine wpList_append_lies _ rfl (.tmp 52) (.tmp 58) 23 rfl w.heap.size 37 i0 _ 2 2 Try.underlying23 hi0 hz0 hz1 hz2 rfl (by decide) _ _ _ rfl (hown.alloc _) ⟨wr.heap.size, 0, none⟩ 1 1 [.int .u8 k, .int .u8 k] rfl rfl (World.news_of_block (heap_alloc_new wr _)) (two_one _ _) (by decide) (by unfold maxLen; simp) (by simp) (by simp; omega) _ rfl ?_)
          intro g cap2 w2 hown2 hgrow hat hlt2
          go_wp2
          go_roundw
          case rel =>
            refine ⟨k + 1, by omega, by go_num, ?_, (hbw.alloc hB _).grown hgrow (by simp; omega) (fun j hj => (hown.lt j hj).1)⟩
            rw [HE.out]
            rw [show rgCells [(UInt8.ofNat k, UInt8.ofNat k)] = [.int .u8 (k : Int), .int .u8 (k : Int)] by simp only [rgCells, List.flatMap_cons, List.flatMap_nil, HKU.out]; rfl]
            exact hown2
          case measure => simp [intOf]; omega
        · have HE := Lib.hid e2
          have e3' : ((hi.toNat : Int) == (k : Int) - 1) = true := by simp; omega
          rw [e1] at hown hrl
          clear e1 e2 e3
          obtain ⟨g, cap, rfl, hg0, hg1⟩ := hown.form (by simp)
          obtain ⟨q0, q1⟩ := rgCells_get (l ++ [(lo, hi)]) l.length (lo, hi) (by simp)
          have hc0 : wr.cell? ⟨g, l.length * 2, none⟩ = some (.int .u8 lo.toNat) := by rw [hown.cellAt _ (by simp)]; exact q0
          have hc1 : wr.cell? ⟨g, l.length * 2 + 1, none⟩ = some (.int .u8 hi.toNat) := by rw [hown.cellAt _ (by simp; omega)]; exact q1
          clear q0 q1
          have hll : (l ++ [(lo, hi)]).length = l.length + 1 := by simp
          have hcap : l.length + 1 ≤ cap := by
            rcases hown.2 with ⟨h, _⟩ | ⟨g', cap', cur, h, _, _, h4, _⟩
            · cases h
            · injection h with _ _ h5; simp at h4; omega
          have hsh := own_shrink hown (m := l.length) (by simp)
          rw [rgCells_append, List.take_append_of_le_length (by rw [rgCells_len]; exact Nat.le_refl _), List.take_of_length_le (by rw [rgCells_len]; exact Nat.le_refl _)] at hsh
          rw [hll] at hown hrl ⊢
          have hhi := UInt8.toNat_lt hi
          have hs0 : (0 : Int) ≤ (l.length : Int) := by omega
          have hs1 : (l.length : Int) ≤ (cap : Int) := by omega
          have hs2 : ((l.length : Int) + 1 - 1) = l.length := by omega
          have hs3 : IntKind.i64.wrap (l.length : Int) = l.length := IntWalk.i64_in _ (by omega)
          have hs8 : IntKind.u8.wrap (k : Int) = k := IntWalk.u8_in _ (by omega)
          have hgne : some wr.heap.size ≠ (Value.slice (some ⟨g, 0, none⟩) l.length cap).ownBlock := by simp [Value.ownBlock]; omega
          have hs4 : ¬ cap = 0 := by omega
          have hs5 : l.length ≤ cap := by omega
          have hs6 : (cap == 0) = false := by simp; omega
          have hs7 : ∀ W : World, (Instr.sliceAt 23 (.slice (some ⟨g, 0, none⟩) (l.length + 1) cap) none (some (.int .i64 (l.length : Int))) none).run Try.prog W = .ok (.slice (some ⟨g, 0, none⟩) l.length cap) W := by
            intro W
            have h1 := run_slice_h (P := Try.prog) W 23 (some ⟨g, 0, none⟩) (l.length + 1) cap (by kernel_rfl) .i64 (l.length : Int) hs0 hs1
            simp only [go_sem] at h1 ⊢
            go_simp
          go_wp2_with fail
          refine HIN.out.mono ?_
          rintro e w2 ⟨rfl, rfl⟩
          go_wp2
          go_region_held3 (fun W => W.cell? ⟨wr.heap.size, 0, none⟩ = some (.int .u8 lo.toNat)) (go_keep)
            ((refine step_append_lies _ (by rfl) (.tmp 44) (.tmp 50) 23 (by rfl) w.heap.size 37 i0 _ 2 2 Try.underlying23 hi0 hz0 hz1 hz2 rfl (by decide) _ l.length (rgCells l) (by rfl) (by exact (hsh.alloc _).alloc _) ⟨wr.heap.size + 1, 0, none⟩ 1 1 [.int .u8 lo.toNat, .int .u8 k] (by rfl) rfl (by exact World.news_of_block (by exact heap_alloc_new2 wr _ _)) (two_one _ _) (by decide) (by unfold maxLen; omega) (by omega) (by simp; omega) _ (by rfl) ?_; intro g2 cap2 w2 hown2 hgrow hat hlt2; have hk2 := keep_last hgrow hgne))
          go_wp2
          go_roundw
          case rel =>
            refine ⟨k + 1, by omega, by go_num, ?_, ((hbw.alloc hB _).alloc (by simp; omega) _).drew.grown hgrow (by simp; omega) (fun j hj => (hsh.lt j hj).1)⟩
            rw [HE.out, rgCells_append, List.length_append]
            rw [show rgCells [(lo, UInt8.ofNat k)] = [.int .u8 (lo.toNat : Int), .int .u8 (k : Int)] by simp only [rgCells, List.flatMap_cons, List.flatMap_nil, HKU.out]; rfl]
            exact hown2
          case measure => simp [intOf]; omega
        · have HE := Lib.hid e2
          have e3' : ((hi.toNat : Int) == (k : Int) - 1) = false := by simp; omega
          rw [e1] at hown hrl
          clear e1 e2 e3
          obtain ⟨g, cap, rfl, hg0, hg1⟩ := hown.form (by simp)
          have hc1 : wr.cell? ⟨g, l.length * 2 + 1, none⟩ = some (.int .u8 hi.toNat) := by
            rw [hown.cellAt _ (by simp; omega)]
            exact (rgCells_get (l ++ [(lo, hi)]) l.length (lo, hi) (by simp)).2
          have hll : (l ++ [(lo, hi)]).length = l.length + 1 := by simp
          rw [hll] at hown hrl ⊢
          have hhi := UInt8.toNat_lt hi
          go_wp2_with fail
          refine HIN.out.mono ?_
          rintro e w2 ⟨rfl, rfl⟩
          go_wp2_with (at_builtin; refine wpList_append_lies _ rfl (.tmp 52) (.tmp 58) 23 rfl w.heap.size 37 i0 _ 2 2 Try.underlying23 hi0 hz0 hz1 hz2 rfl (by decide) _ _ _ rfl (hown.alloc _) ⟨wr.heap.size, 0, none⟩ 1 1 [.int .u8 k, .int .u8 k] rfl rfl (World.news_of_block (heap_alloc_new wr _)) (two_one _ _) (by decide) (by unfold maxLen; omega) (by omega) (by simp; omega) _ rfl ?_)
          intro g2 cap2 w2 hown2 hgrow hat hlt2
          go_wp2
          go_roundw
          case rel =>
            refine ⟨k + 1, by omega, by go_num, ?_, (hbw.alloc hB _).grown hgrow (by simp; omega) (fun j hj => (hown.lt j hj).1)⟩
            rw [HE.out, rgCells_append _ [(UInt8.ofNat k, UInt8.ofNat k)], List.length_append, hll]
            rw [show rgCells [(UInt8.ofNat k, UInt8.ofNat k)] = [.int .u8 (k : Int), .int .u8 (k : Int)] by simp only [rgCells, List.flatMap_cons, List.flatMap_nil, HKU.out]; rfl]
            exact hown2
          case measure => simp [intOf]; omega
    · obtain rfl : k = 256 := by omega
      obtain ⟨ao, cap, hv⟩ := own_form hown
      subst hv
      go_wp2
      go_ret
      exact ⟨_, rfl, hown, hbw⟩
end Go.Proofs.Ytjnhmcgjeljcmaa
namespace Go.Proofs.Ytjnhmcgjeljcmaa
open Go.RowKit

theorem rg_of_own {w : World} {B n : Nat} {v : Value} {l : List (UInt8 × UInt8)} (h : w.ownsRow B 37 2 v n (rgCells l)) :
    ∃ A c, v = .slice A l.length c ∧ n = l.length ∧ l.length ≤ maxLen ∧ RgAt w (fun b => B ≤ b ∧ b < w.heap.size ∧ v.ownBlock = some b) A l.length l := by
  have hn : n = l.length := by have := h.1; rw [rgCells_len] at this; omega
  subst hn
  rcases h.2 with ⟨rfl, h0⟩ | ⟨g, cap, cur, rfl, h1, h2, h3, h4, h5, h6⟩
  · exact ⟨none, 0, by rw [h0], rfl, by omega, by rw [h0, List.eq_nil_of_length_eq_zero h0]; exact RgAt.nil _ _ _⟩
  · refine ⟨_, _, rfl, rfl, by omega, rfl, fun hn => ⟨g, 0, rfl, ⟨h1, (Array.getElem?_eq_some_iff.1 h2).1, rfl⟩, fun i r hr => ?_⟩⟩
    obtain ⟨q1, q2⟩ := rgCells_get l i r hr
    have hi : i < l.length := (List.getElem?_eq_some_iff.1 hr).1
    simp only [Nat.zero_add]
    exact ⟨by rw [h.cellAt _ (by omega)]; exact q1, by rw [h.cellAt _ (by omega)]; exact q2⟩
theorem tree_leaf {w : World} {X : Nat → Prop} {A : Option Addr} {n c : Nat} {k : Int} {rs : List (UInt8 × UInt8)} (hn : n ≤ maxLen) (h : RgAt w X A n rs) (d : Nat) : TreeAt w X (d + 1) (.mk k rs []) [.int .i64 k, .slice A n c, .slice none 0 0] :=
  ⟨A, n, c, none, 0, 0, rfl, hn, ⟨Nat.zero_le _, Nat.le_refl _⟩, h, rfl, fun h => absurd h (by omega)⟩
theorem rgCells_one (l : List (UInt8 × UInt8)) : ∀ u ∈ rgCells l, u.oneCell' = true := by
  intro u hu
  simp only [rgCells, List.mem_flatMap] at hu
  obtain ⟨r, _, hr⟩ := hu
  simp at hr; rcases hr with rfl | rfl <;> rfl
theorem rgCells_at {l : List (UInt8 × UInt8)} {j : Nat} {u : Value} (h : (rgCells l)[j]? = some u) : ∃ i r, l[i]? = some r ∧ ((j = i * 2 ∧ u = .int .u8 r.1.toNat) ∨ (j = i * 2 + 1 ∧ u = .int .u8 r.2.toNat)) := by
  have hj : j < (rgCells l).length := (List.getElem?_eq_some_iff.1 h).1
  rw [rgCells_len] at hj
  have hi : j / 2 < l.length := by omega
  refine ⟨j / 2, l[j / 2], List.getElem?_eq_getElem hi, ?_⟩
  obtain ⟨q1, q2⟩ := rgCells_get l (j / 2) _ (List.getElem?_eq_getElem hi)
  rcases Nat.mod_two_eq_zero_or_one j with hm | hm
  · left; refine ⟨by omega, ?_⟩
    rw [show j / 2 * 2 = j by omega, h] at q1; injection q1
  · right; refine ⟨by omega, ?_⟩
    rw [show j / 2 * 2 + 1 = j by omega, h] at q2; injection q2
set_option maxRecDepth 100000 in
/-- append onto an empty row of the call's own, of a slice of ranges, nil or not. -/
theorem append_rg {w : World} {ops : Array Oper} {rest : List Oper} {o : Oper} {a : Act} {Q : Exit → Act → World → Prop} (hgd : o.guard = none) (s x : Operand)
    (ho : o.op = .call { callee := .builtin .append, args := #[s, x], argTypes := #[23, 23] }) (base : Nat) (v : Value) (hs : a.eval s = v) (hown : w.ownsRow base 37 2 v 0 [])
    {X : Nat → Prop} {A : Option Addr} {n c : Nat} {rs : List (UInt8 × UInt8)} (hx : a.eval x = .slice A n c) (hr : RgAt w X A n rs) (hc : A = none → c = 0) (hn : n ≤ maxLen) (hb : n * 2 ≤ 140737488355328) (hbase : base ≤ w.heap.size)
    (h : ∀ v' w', w'.ownsRow base 37 2 v' n (rgCells rs) → w.grownBy w' v.ownBlock → wpList Try.prog ops Q rest (a.put o.dst v') w') : wpList Try.prog ops Q (o :: rest) a w := by
  obtain ⟨i0, hi0, hz0, hz1, hz2⟩ := info_parts rgInfo
  rcases A with _ | ad
  · have hn0 : n = 0 := by
      rcases Nat.eq_zero_or_pos n with h0 | h0
      · exact h0
      · obtain ⟨b, o, h1, _⟩ := hr.2 h0; cases h1
    subst hn0
    obtain rfl := hc rfl
    have hrs : rs = [] := List.eq_nil_of_length_eq_zero hr.1
    subst hrs
    exact wpList_append_own_none hgd s x 23 ho base 37 i0 2 Try.underlying23 hi0 v 0 [] hs hown hx (h v w hown (World.grownBy.refl _ _))
  · refine wpList_append_own _ hgd s x 23 ho base 37 i0 _ 2 2 Try.underlying23 hi0 hz0 hz1 hz2 rfl (by decide) v 0 [] hs hown ad n c (rgCells rs) hx ?_ ?_ (rgCells_one rs) (by simpa using hn) (by simpa using hb) hbase ?_
    · rw [rgCells_len, hr.1]
    · intro j u hu
      have hn0 : 0 < n := by
        have h1 := (List.getElem?_eq_some_iff.1 hu).1
        rw [rgCells_len, hr.1] at h1; omega
      obtain ⟨b, o, h1, _, hcell⟩ := hr.2 hn0
      injection h1 with h1
      subst h1
      rw [Addr.add_mid]
      obtain ⟨i, r, hi, ⟨rfl, rfl⟩ | ⟨rfl, rfl⟩⟩ := rgCells_at hu
      · exact (hcell i r hi).1
      · exact (hcell i r hi).2
    · intro v' w' h1 h2 _
      exact h v' w' (by simpa using h1) h2
theorem own_below {w w' : World} {B e sz n : Nat} {v : Value} {xs : List Value} (h : w.ownsRow B e sz v n xs) (hb : Below w.heap.size w w') : w'.ownsRow B e sz v n xs :=
  h.kept (row := none) ⟨hb.os, hb.tape, hb.output, hb.size, fun i hi _ => hb.block i hi⟩ (by cases v.ownBlock <;> simp)
theorem one_ranges : rangesL [(1, 254)] true = [(0, 0), (255, 255)] := by decide +kernel

end Go.Proofs.Ytjnhmcgjeljcmaa
