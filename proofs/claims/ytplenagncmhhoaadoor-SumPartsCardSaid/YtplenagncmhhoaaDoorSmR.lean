/- sum.Parse. -/
import Derived.Test.YtplenagncmhhoaaDoorSmQ
import Derived.Deep.RegionHeld3
namespace Go.Proofs.YtplenagncmhhoaaDoor
open Go.RowKit

theorem lines_join : ∀ (l cur : Ln), flat (linesOf cur l).1 ++ (linesOf cur l).2 = cur ++ l
  | [], cur => by simp [linesOf, flat]
  | c :: r, cur => by
    rw [lines_cons]
    by_cases hc : c = 10
    · rw [if_pos hc]
      have ih := lines_join r []
      have e : flat (cur :: (linesOf [] r).1) = cur ++ 10 :: flat (linesOf [] r).1 := by simp [flat]
      simp only [e, List.append_assoc, List.cons_append]
      rw [ih, hc]; simp
    · rw [if_neg hc, lines_join r (cur ++ [c])]; simp
theorem lines_no10 : ∀ (l cur : Ln), (10 : UInt8) ∉ cur → (∀ x, x ∈ (linesOf cur l).1 → (10 : UInt8) ∉ x) ∧ (10 : UInt8) ∉ (linesOf cur l).2
  | [], cur, h => ⟨fun x hx => by simp [linesOf] at hx, h⟩
  | c :: r, cur, h => by
    rw [lines_cons]
    by_cases hc : c = 10
    · rw [if_pos hc]
      have ih := lines_no10 r [] (by simp)
      refine ⟨fun x hx => ?_, ih.2⟩
      rcases List.mem_cons.1 hx with rfl | hx
      · exact h
      · exact ih.1 x hx
    · rw [if_neg hc]
      exact lines_no10 r (cur ++ [c]) (by
        intro hm
        rcases List.mem_append.1 hm with hm | hm
        · exact h hm
        · simp at hm; exact hc hm.symm)
theorem lines_fine (text : Ln) (h1 : text.length ≤ 4000000000) (h2 : (linesOf [] text).1.length ≤ 1000000) : Fine (linesOf [] text).1 (linesOf [] text).2 0 := by
  have hj := lines_join text []
  have hn := lines_no10 text [] (by simp)
  exact ⟨hn.1, hn.2, by rw [hj]; simpa using h1, by omega⟩
theorem lines_le : ∀ (l cur : Ln), (linesOf cur l).1.length ≤ l.length
  | [], cur => by simp [linesOf]
  | c :: r, cur => by
    rw [lines_cons]
    by_cases hc : c = 10
    · rw [if_pos hc]
      have := lines_le r []
      simp; omega
    · rw [if_neg hc]
      have := lines_le r (cur ++ [c])
      simp; omega
/-- What Parse answers: a sum, or the line that can't be taken. -/
def ParsePost (w : World) (text : Ln) (e : Ending) (w' : World) : Prop :=
  (∃ (s : Sm) (A : Option Addr) (n c : Nat), parseB text = (some s, 0) ∧ okS okN s ∧ s.parts.length + resSum s.parts ≤ 1000000 ∧ e = .returned (.tuple #[.agg #[.string ⟨s.suite.toArray⟩, .string ⟨s.board.toArray⟩, .slice A n c], .int .i64 0, .int .i64 0]) ∧ PartsAt w' A n (s.parts.map pB) ∧ Below w.heap.size w w')
  ∨ (∃ k : Nat, parseB text = (none, k) ∧ e = .returned (.tuple #[.agg #[.string ⟨#[]⟩, .string ⟨#[]⟩, .slice none 0 0], .int .i64 80, .int .i64 (k : Nat)]) ∧ Below w.heap.size w w')
set_option maxHeartbeats 4000000 in
set_option maxRecDepth 100000 in
theorem sParse_any {w : World} (T : ByteArray) (hg : GlAt w) (hw : 4 < w.heap.size) (h1 : T.size ≤ 4000000000) (h2 : (linesOf [] (lnB T)).1.length ≤ 1000000) :
    Calls Tryd.prog 21 #[.string T] w (ParsePost w (lnB T)) := by
  have hl : (lnB T).length = T.size := Array.length_toList
  have HF := Lib.hid (lines_fine (lnB T) (by omega) h2)
  have HT := Lib.hid (show (⟨(flat (linesOf [] (lnB T)).1 ++ (linesOf [] (lnB T)).2).toArray⟩ : ByteArray) = T by
    rw [lines_join]; simp [lnB])
  have HPB := Lib.hid (show parseB (lnB T) = sumP rdN dgN (linesOf [] (lnB T)).1 (linesOf [] (lnB T)).2 from rfl)
  obtain ⟨ls, hls⟩ : ∃ x, x = (linesOf [] (lnB T)).1 := ⟨_, rfl⟩
  obtain ⟨t, ht⟩ : ∃ x, x = (linesOf [] (lnB T)).2 := ⟨_, rfl⟩
  rw [← hls, ← ht] at HF HT HPB
  clear hls ht hl h1 h2
  have HG := Lib.hid hg
  have hb0 := Below.alloc (Below.alloc (Below.refl w.heap.size w) (Nat.le_refl _) (.cells #[.string ⟨#[]⟩, .string ⟨#[]⟩, .slice none 0 0] 24)) (by simp) (.cells #[.string T, .int .i64 0] 81)
  have HB0 := Lib.hid hb0
  have Z0 := Lib.hid ((Blk.new w 24 #[.string ⟨#[]⟩, .string ⟨#[]⟩, .slice none 0 0]).alloc (.cells #[.string T, .int .i64 0] 81))
  have R0 := Lib.hid (show RdS ((w.alloc (.cells #[.string ⟨#[]⟩, .string ⟨#[]⟩, .slice none 0 0] 24)).alloc (.cells #[.string T, .int .i64 0] 81)) (w.heap.size + 1) ls t 0 by
    unfold RdS
    rw [HT.out]
    have h := Blk.new (w.alloc (.cells #[.string ⟨#[]⟩, .string ⟨#[]⟩, .slice none 0 0] 24)) 81 #[.string T, .int .i64 0]
    simpa using h)
  have HG0 := Lib.hid ((hg.alloc (.cells #[.string ⟨#[]⟩, .string ⟨#[]⟩, .slice none 0 0] 24)).alloc (.cells #[.string T, .int .i64 0] 81))
  have HS := Lib.hid (sum_any R0.out HF.out HG0.out (by omega))
  clear hb0 hg
  go_enter Tryd.func21, Tryd.ntmps21
  go_wp2_with fail
  (with_reducible refine HS.out.mono ?_)
  rintro e w1 ⟨su, bo, A, n, c, ok, ls', k', rfl, r1, g1, hf, ht⟩
  have R1 := Lib.hid r1
  have B1 := Lib.hid (show Below w.heap.size w w1 from ⟨g1.os.trans HB0.out.os, g1.tape.trans HB0.out.tape, g1.output.trans HB0.out.output, Nat.le_trans HB0.out.size g1.size, fun b hb => (g1.block b (by simp; omega) (fun e => by injection e with e; omega)).trans (HB0.out.block b hb)⟩)
  have Z1 := Lib.hid (Z0.out.grown g1 (fun e => by injection e with e; omega))
  have HOK := Lib.hid hf
  have HOT := Lib.hid ht
  have hs1 := g1.size
  have hrl := R1.out.lt
  have hzl := Z1.out.lt
  obtain ⟨z0, z1, z2, f0, f1, f2⟩ := blk3 Z1.out
  obtain ⟨S', hS'⟩ : ∃ S : ByteArray, S = ⟨(flat ls' ++ t).toArray⟩ := ⟨_, rfl⟩
  obtain ⟨q0, q1, _, _⟩ := blk2 (show Blk w1 (w.heap.size + 1) 81 #[.string S', .int .i64 (k' : Nat)] by rw [hS']; exact R1.out)
  have HS' := Lib.hid hS'
  clear r1 g1 hf ht hS'
  cases ok with
  | false =>
    have HP := Lib.hid (HPB.out.trans (HOK.out rfl))
    go_wp2
    have q1d : (w1.alloc (.cells #[.string su, .string bo, .slice A n c] 24)).cell? ⟨w.heap.size + 1, 1, none⟩ = some (.int .i64 (k' : Nat)) := (World.cell?_of_block (a := ⟨w.heap.size + 1, 1, none⟩) (Below.heap_alloc w1 _ _ hrl)).trans q1
    go_region_held3 (fun W => W.cell? ⟨w.heap.size + 1, 1, none⟩ = some (.int .i64 (k' : Nat))) (go_keep) (fail)
    go_wp2
    have Z14 := ((Blk.set3 (.string ⟨#[]⟩) (.string ⟨#[]⟩) (.slice none 0 0) Z1.out).alloc (.cells #[.string su, .string bo, .slice A n c] 24)).drew
    obtain ⟨c0, c1, c2, _, _, _⟩ := blk3 Z14
    exact bodyPost_ret (v := .tuple #[.agg #[.string ⟨#[]⟩, .string ⟨#[]⟩, .slice none 0 0], .int .i64 80, .int .i64 (k' : Nat)]) (by simp [results, Tryd.results21, go_sem, c0, c1, c2]) rfl (.inr ⟨k', HP.out, rfl, (((((B1.out.setCell (p := ⟨w.heap.size, 0, none⟩) (Nat.le_refl _) (.string ⟨#[]⟩)).setCell (p := ⟨w.heap.size, 1, none⟩) (Nat.le_refl _) (.string ⟨#[]⟩)).setCell (p := ⟨w.heap.size, 2, none⟩) (Nat.le_refl _) (.slice none 0 0)).alloc (by simp; omega) (.cells #[.string su, .string bo, .slice A n c] 24))).drew⟩)
  | true =>
    obtain ⟨s, hok, hsu, hbo, hpa, hcn, hy, hn⟩ := HOT.out rfl
    have HOKS := Lib.hid hok
    have HPA := Lib.hid hpa
    have HSU := Lib.hid hsu
    have HBO := Lib.hid hbo
    have HCN := Lib.hid hcn
    clear hok hpa hsu hbo hcn
    by_cases hz : ls' = [] ∧ t = []
    · have HP := Lib.hid (HPB.out.trans (hy hz))
      have hem : S' = ⟨#[]⟩ := by
        rw [HS'.out, hz.1, hz.2]; rfl
      rw [hem] at q0
      clear hy hn hz hem
      go_wp2
      have Z14 := (Blk.set3 (.string su) (.string bo) (.slice A n c) Z1.out).alloc (.cells #[.string su, .string bo, .slice A n c] 24)
      obtain ⟨c0, c1, c2, _, _, _⟩ := blk3 Z14
      rw [HSU.out, HBO.out] at *
      refine bodyPost_ret (v := .tuple #[.agg #[.string ⟨s.suite.toArray⟩, .string ⟨s.board.toArray⟩, .slice A n c], .int .i64 0, .int .i64 0]) (by simp [results, Tryd.results21, go_sem, c0, c1, c2]) rfl (.inl ⟨s, A, n, c, HP.out, HOKS.out, HCN.out, rfl, HPA.out _ ?_, (((B1.out.setCell (p := ⟨w.heap.size, 0, none⟩) (Nat.le_refl _) _).setCell (p := ⟨w.heap.size, 1, none⟩) (Nat.le_refl _) _).setCell (p := ⟨w.heap.size, 2, none⟩) (Nat.le_refl _) _).alloc (by simp; omega) _⟩)
      intro b hb hlt
      have hb' : w.heap.size + 1 + 1 + 1 ≤ b := by simpa using hb
      rw [Below.heap_alloc _ _ b (by simpa using hlt), Below.heap_setCell _ ⟨w.heap.size, 2, none⟩ _ b (by simp; omega), Below.heap_setCell _ ⟨w.heap.size, 1, none⟩ _ b (by simp; omega), Below.heap_setCell _ ⟨w.heap.size, 0, none⟩ _ b (by simp; omega)]
    · have HP := Lib.hid (HPB.out.trans (hn hz))
      have hem : S'.toList.isEmpty = false := by
        rw [ByteArray.toList_eq, HS'.out]
        cases ls' with
        | nil =>
          cases t with
          | nil => exact absurd ⟨rfl, rfl⟩ hz
          | cons a b => simp [flat]
        | cons a b => simp [flat]
      clear hy hn hz
      go_wp2
      have q1d : (w1.alloc (.cells #[.string su, .string bo, .slice A n c] 24)).cell? ⟨w.heap.size + 1, 1, none⟩ = some (.int .i64 (k' : Nat)) := (World.cell?_of_block (a := ⟨w.heap.size + 1, 1, none⟩) (Below.heap_alloc w1 _ _ hrl)).trans q1
      go_region_held3 (fun W => W.cell? ⟨w.heap.size + 1, 1, none⟩ = some (.int .i64 (k' : Nat))) (go_keep) (fail)
      go_wp2
      have Z14 := ((Blk.set3 (.string ⟨#[]⟩) (.string ⟨#[]⟩) (.slice none 0 0) Z1.out).alloc (.cells #[.string su, .string bo, .slice A n c] 24)).drew
      obtain ⟨c0, c1, c2, _, _, _⟩ := blk3 Z14
      exact bodyPost_ret (v := .tuple #[.agg #[.string ⟨#[]⟩, .string ⟨#[]⟩, .slice none 0 0], .int .i64 80, .int .i64 (k' : Nat)]) (by simp [results, Tryd.results21, go_sem, c0, c1, c2]) rfl (.inr ⟨k', HP.out, rfl, (((((B1.out.setCell (p := ⟨w.heap.size, 0, none⟩) (Nat.le_refl _) (.string ⟨#[]⟩)).setCell (p := ⟨w.heap.size, 1, none⟩) (Nat.le_refl _) (.string ⟨#[]⟩)).setCell (p := ⟨w.heap.size, 2, none⟩) (Nat.le_refl _) (.slice none 0 0)).alloc (by simp; omega) (.cells #[.string su, .string bo, .slice A n c] 24))).drew⟩)
end Go.Proofs.YtplenagncmhhoaaDoor
