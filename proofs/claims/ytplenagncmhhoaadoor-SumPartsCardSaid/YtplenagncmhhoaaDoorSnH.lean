/- The document's text of a sum. -/
import Derived.Test.YtplenagncmhhoaaDoorSnD
import Derived.Test.YtplenagncmhhoaaDoorSnG
namespace Go.Proofs.YtplenagncmhhoaaDoor
open Go.RowKit

theorem flat_take_succ {ls : List Ln} {k : Nat} {l : Ln} (h : ls[k]? = some l) : flat (ls.take (k + 1)) = flat (ls.take k) ++ l ++ [10] := by
  rw [List.take_add_one, h]
  simp [flat]
theorem flat_take_le (ls : List Ln) (k : Nat) : (flat (ls.take k)).length ≤ (flat ls).length := by
  conv => rhs; rw [← List.take_append_drop k ls, flat_app, List.length_append]
  omega
set_option maxHeartbeats 4000000 in
set_option maxRecDepth 100000 in
theorem rText20_any {w : World} (su bo : ByteArray) {A : Option Addr} {n c : Nat} {ps : List PtB} (h : PartsAt w A n ps) (hsu : su.size ≤ maxLen) (hbo : bo.size ≤ maxLen) (h1 : ps.length ≤ 1000000) (hb : (ps.map fun p => p.2.length).sum ≤ 1000000) :
    Calls Tryd.prog 20 #[.agg #[.string su, .string bo, .slice A n c]] w fun e w' => e = .returned (.string (if rightS su bo ps = true then ⟨(textB (smB su bo ps)).toArray⟩ else ⟨#[]⟩)) ∧ Below w.heap.size w w' := by
  have HPA := Lib.hid h
  have HB0 := Lib.hid ((Below.refl w.heap.size w).alloc (Nat.le_refl _) (.cells #[.string su, .string bo, .slice A n c] 29))
  have HS0 := Lib.hid (Blk.new w 29 #[.string su, .string bo, .slice A n c])
  have HS := Lib.hid (rRight_any (c := c) su bo (h.below HB0.out) hsu hbo)
  have HB := Lib.hid hb
  have H1 := Lib.hid h1
  clear h hb h1
  cases hr : rightS su bo ps
  · rw [hr] at HS
    go_enter Tryd.func20, Tryd.ntmps20
    go_wp2_with fail
    (with_reducible refine HS.out.mono ?_)
    rintro e w2 ⟨rfl, b2⟩
    have HB2 := Lib.hid (HB0.out.trans (b2.mono (by simp)))
    clear b2
    go_wp2
    go_ret
    exact ⟨by simp, HB2.out⟩
  · rw [hr] at HS
    have HR := Lib.hid hr
    clear hr
    go_enter Tryd.func20, Tryd.ntmps20
    go_wp2_with fail
    (with_reducible refine HS.out.mono ?_)
    rintro e w2 ⟨rfl, b2⟩
    have HB2 := Lib.hid (HB0.out.trans (b2.mono (by simp)))
    have Z2 := Lib.hid (HS0.out.below b2 (by simp))
    obtain ⟨q0, q1, q2, _, _, _⟩ := blk3 Z2.out
    have hlt2 := Z2.out.lt
    have hs2 := HB2.out.size
    clear b2
    have HLI := Lib.hid (rLines_any (c := c) su bo (HPA.out.below HB2.out) hsu hbo H1.out HB.out HR.out)
    go_wp2_with fail
    (with_reducible refine HLI.out.mono ?_)
    rintro e w3 ⟨v3, rfl, hl3, b3⟩
    have HB3 := Lib.hid (HB2.out.trans (b3.mono hs2))
    obtain ⟨AL, hAL⟩ : ∃ AL : List Ln, AL = sumL wrN dgN (smB su bo ps) := ⟨_, rfl⟩
    rw [← hAL] at hl3
    have hb1 := HB.out
    have hb2 := H1.out
    have hpm : ((ps.map ptB).map fun p => p.2.length).sum = (ps.map fun p => p.2.length).sum := ptB_sum ps
    have hsh := text_short (okS_of HR.out) (by show (ps.map ptB).length ≤ 1000000; rw [List.length_map]; exact hb2) (by
      show ((ps.map ptB).map fun p => p.2.length).sum ≤ 1000000
      rw [hpm]; exact hb1)
    have hln : AL.length ≤ 2000011 := by
      have h := sumL_len (smB su bo ps)
      have e1 : (smB su bo ps).parts.length = ps.length := by show (ps.map ptB).length = _; rw [List.length_map]
      have e2 : ((smB su bo ps).parts.map fun p => p.2.length).sum = (ps.map fun p => p.2.length).sum := hpm
      rw [e1, e2] at h
      rw [hAL]; omega
    unfold textB at hsh
    rw [← hAL] at hsh
    have HT := Lib.hid (show flat AL = textB (smB su bo ps) by rw [hAL]; rfl)
    have hl0 : 0 < AL.length := by rw [hAL]; simp [sumL]
    obtain ⟨g, cap, rfl, _, hgl, hcap, hcell⟩ := lines_cells hl3 hl0
    have HCELL := Lib.hid hcell
    obtain ⟨N, hN⟩ : ∃ N, N = AL.length := ⟨_, rfl⟩
    rw [← hN] at hln hcap hl0
    rw [← hN]
    have HN := Lib.hid hN
    clear hN b3 hAL hpm q0 q1 q2 hl3 hcell hb1 hb2
    obtain ⟨wo, hwo⟩ : ∃ wo, wo = w3 := ⟨_, rfl⟩
    subst hwo
    go_wp2
    go_loopw [3, 5] (fun o i wr => ∃ k : Nat, k ≤ N ∧ i = .int .i64 (k : Nat) ∧ o = .string ⟨(flat (AL.take k)).toArray⟩ ∧ wr = wo) (fun _ i _ => N - (intOf i).toNat)
    case atStart => exact ⟨0, Nat.zero_le _, rfl, rfl, rfl⟩
    case round =>
      obtain ⟨k, hk, rfl, rfl, rfl⟩ := hrel
      by_cases hlt : k < N
      · have hlt' : (k : Int) < (N : Int) := by omega
        have hk0 : (0 : Int) ≤ (k : Int) := by omega
        obtain ⟨l, hl⟩ : ∃ l, AL[k]? = some l := ⟨AL[k]'(by rw [← HN.out]; exact hlt), List.getElem?_eq_getElem _⟩
        have hc := HCELL.out k l hl
        unfold lineV at hc
        have hfs := flat_take_succ hl
        have hfl := flat_take_le AL (k + 1)
        rw [hfs] at hfl
        simp only [List.length_append, List.length_cons, List.length_nil] at hfl
        obtain ⟨u, hu⟩ : ∃ u : ByteArray, u = ⟨(flat (AL.take k)).toArray⟩ := ⟨_, rfl⟩
        obtain ⟨x, hx⟩ : ∃ u : ByteArray, u = ⟨l.toArray⟩ := ⟨_, rfl⟩
        have hus : u.size = (flat (AL.take k)).length := by rw [hu, size_mk]
        have hxs : x.size = l.length := by rw [hx, size_mk]
        have HE := Lib.hid (show (u ++ x ++ ⟨#[10]⟩ : ByteArray) = ⟨(flat (AL.take (k + 1))).toArray⟩ by
          rw [hu, hx, hfs]
          apply ByteArray.ext
          simp [ByteArray.data_append])
        have n1 : ¬ (9223372036854775807 < u.size + x.size) := by omega
        have n2 : ¬ (9223372036854775807 < u.size + x.size + 1) := by omega
        rw [← hu]
        rw [← hx] at hc
        have hq : IntKind.i64.wrap ((k : Int) + 1) = (k : Int) + 1 := IntWalk.i64_in _ (by omega)
        clear hl hfs hfl hu hx hus hxs hsh
        go_wp2
        rw [HE.out]
        go_roundw
        case rel => exact ⟨k + 1, by omega, by go_num, rfl, by trivial⟩
        case measure => simp [intOf]; omega
      · have hlt' : ¬ (k : Int) < (N : Int) := by omega
        have HF := Lib.hid (show (⟨(flat (AL.take k)).toArray⟩ : ByteArray) = ⟨(textB (smB su bo ps)).toArray⟩ by
          rw [List.take_of_length_le (by rw [← HN.out]; omega), HT.out])
        rw [HF.out]
        clear hsh
        go_wp2
        go_ret
        exact ⟨by first | rfl | (rw [if_pos rfl]; rfl), HB3.out⟩
end Go.Proofs.YtplenagncmhhoaaDoor
