/- The reference's Asks and All. -/
import Derived.Test.YtfgblmdmhgllgaaCs
import Derived.Test.YtfgblmdmhgllgaaCw
namespace Go.Proofs.Ytfgblmdmhgllgaa
open Go.RowKit Go.Maps

set_option maxHeartbeats 2000000 in
set_option maxRecDepth 100000 in
theorem rAsks_any (nm : ByteArray) : ∀ (f D : Nat) (t : CT) (v0 v1 v2 v3 : Value) (w : World), CondAt w (· < w.heap.size) D t [v0, v1, v2, v3] → rightT f t = true →
    Calls Try.prog 47 #[.agg #[v0, v1, v2, v3], .string nm] w fun e w' => e = .returned (.bool (asksT nm f t)) ∧ Below w.heap.size w w' := by
  intro f
  induction f with
  | zero => intro D t v0 v1 v2 v3 w _ h; cases h
  | succ f ih =>
    intro D t v0 v1 v2 v3 w ht hr
    obtain ⟨d, k, n, v, kids, A, m, c, rfl, rfl, hcs, hn, hv, hm, hmc, hk⟩ := ht.form
    simp only [List.cons.injEq, and_true] at hcs
    obtain ⟨rfl, rfl, rfl, rfl⟩ := hcs
    obtain ⟨_, hrk⟩ := right_kids hr
    have IH := Lib.hid ih
    clear ih ht hr
    have hbw := (Below.refl _ w).alloc (Nat.le_refl _) (.cells #[.int .i64 k, .string n, .string v, .slice A m c] 76)
    have hp0 : Blk (w.alloc (.cells #[.int .i64 k, .string n, .string v, .slice A m c] 76)) w.heap.size 76 #[.int .i64 k, .string n, .string v, .slice A m c] := Blk.new w _ _
    unfold maxLen at hm
    by_cases hm0 : m = 0
    · have HR := Lib.hid (show asksT nm (f + 1) (.mk k n v kids) = (n.toList == nm.toList) by rw [asksT, hk.1, if_pos hm0, str_beq])
      subst hm0
      clear hk hp0
      go_enter Try.func47, Try.ntmps47
      go_wp2
      go_ret
      exact ⟨ret_bool HR.out.symm, hbw⟩
    · have hmb : ((m : Int) == 0) = false := by simp; omega
      have HR := Lib.hid (show asksT nm (f + 1) (.mk k n v kids) = kids.any (asksT nm f) by rw [asksT, hk.1, if_neg hm0])
      clear hm0
      go_enter Try.func47, Try.ntmps47
      go_wp2_with fail
      go_loopw [5] (fun i wr => ∃ j : Nat, j ≤ m ∧ i = .int .i64 j ∧ (kids.take j).any (asksT nm f) = false ∧ Blk wr w.heap.size 76 #[.int .i64 k, .string n, .string v, .slice A m c] ∧ Below w.heap.size w wr) (fun i _ => m - (intOf i).toNat)
      case atStart => exact ⟨0, Nat.zero_le _, rfl, rfl, hp0, hbw⟩
      case round =>
        clear hp0 hbw
        obtain ⟨j, hj, rfl, hall, hp, hb⟩ := hrel
        have HA := Lib.hid hall
        clear hall
        obtain ⟨p0, p1, p2, p3⟩ := blkc hp
        by_cases hlt : j < m
        · have hlt' : (j : Int) < (m : Int) := by omega
          have hj0 : (0 : Int) ≤ (j : Int) := by omega
          obtain ⟨b, o, t, k', n', v', B, q, c', rfl, hX, htj, e0, e1, e2, e3, ht⟩ := hk.kid hlt
          replace e0 := (hb.cell (p := ⟨b, o + j * 4, none⟩) hX).trans e0
          replace e1 := (hb.cell (p := ⟨b, o + j * 4 + 1, none⟩) hX).trans e1
          replace e2 := (hb.cell (p := ⟨b, o + j * 4 + 2, none⟩) hX).trans e2
          replace e3 := (hb.cell (p := ⟨b, o + j * 4 + 3, none⟩) hX).trans e3
          have hpl := hp.lt
          have HP := Lib.hid hp
          have HC := Lib.hid (IH.out d t _ _ _ _ wr ((ht.keep (fun i hi => hb.block i hi)).mono (Y := (· < wr.heap.size)) fun i hi => Nat.lt_of_lt_of_le hi hb.size) (hrk t (List.mem_of_getElem? htj)))
          have HJ := Lib.hid htj
          clear ht htj hk hp hrk
          cases hx : asksT nm f t
          · rw [hx] at HC
            have HF := Lib.hid (show (kids.take (j + 1)).any (asksT nm f) = false by rw [any_take HJ.out, HA.out, hx]; rfl)
            clear hx
            go_wp2_with ((with_reducible refine HC.out.mono ?_); rintro e w1 ⟨rfl, hb1⟩)
            go_roundw
            case rel => exact ⟨j + 1, by omega, by go_num, HF.out, HP.out.below hb1 hpl, hb.trans (hb1.mono hb.size)⟩
            case measure => simp [intOf]; omega
          · rw [hx] at HC
            have HF := Lib.hid (any_yes HJ.out hx)
            clear hx
            go_wp2_with ((with_reducible refine HC.out.mono ?_); rintro e w1 ⟨rfl, hb1⟩)
            go_ret
            exact ⟨ret_bool (by rw [HR.out]; exact HF.out.symm), hb.trans (hb1.mono hb.size)⟩
        · obtain rfl : j = m := by omega
          have HF := Lib.hid (show kids.any (asksT nm f) = false by have := HA.out; rwa [List.take_of_length_le (by rw [hk.1]; omega)] at this)
          go_wp2
          go_ret
          exact ⟨ret_bool (by rw [HR.out]; exact HF.out.symm), hb⟩
/-- The names of a right tree, as lists of bytes. -/
def nmsL (t : CT) : List (List UInt8) := (namesT t).map fun n => n.data.toList
theorem strInfo : (Try.prog.info? 9).map (fun i => (i.zero, i.size, i.bytes)) = some (some (.string ⟨#[]⟩), 1, 16) := by kernel_rfl
/-- append of one text to a row of its own. -/
theorem append_text {w : World} {B : Nat} {S : Value} {ss : List (List UInt8)} {s : List UInt8} {q : Nat} (ty : TypeId) (hown : w.ownsRow B 9 1 S ss.length (ss.map encStr)) (hq : Blk w q 9 #[.string ⟨s.toArray⟩]) (hl : ss.length + 1 ≤ 1000000000) (hB : B ≤ w.heap.size) :
    ∃ v' w', (Builtin.append_ #[61, 61] ty #[S, .slice (some ⟨q, 0, none⟩) 1 1]).run Try.prog w = .ok v' w' ∧ w'.ownsRow B 9 1 v' (ss ++ [s]).length ((ss ++ [s]).map encStr) ∧ w.grownBy w' S.ownBlock ∧ (v'.ownBlock = S.ownBlock ∨ v'.ownBlock = some w.heap.size) := by
  obtain ⟨i0, hi0, hz0, hz1, hz2⟩ := info_partsC strInfo
  obtain ⟨v', w', e1, e2, e3, _, e5⟩ := run_append_own_at (P := Try.prog) (w := w) B 61 ty 9 i0 _ 1 16 Try.underlying61 hi0 hz0 hz1 hz2 rfl (by decide) S ss.length (ss.map encStr) hown ⟨q, 0, none⟩ 1 1 [encStr s] rfl (fun j u hj => by
    match j, hj with
    | 0, hj => simp at hj; subst hj; exact hq.cell 0) (fun u hu => by simp at hu; subst hu; rfl) (by unfold maxLen; omega) (by omega) hB
  refine ⟨v', w', e1, ?_, e3, e5⟩
  rw [List.length_append, List.map_append]
  exact e2
end Go.Proofs.Ytfgblmdmhgllgaa
