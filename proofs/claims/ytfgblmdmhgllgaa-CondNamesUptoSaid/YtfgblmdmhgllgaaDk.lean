/- The reference's All. -/
import Derived.Test.YtfgblmdmhgllgaaDj
namespace Go.Proofs.Ytfgblmdmhgllgaa
open Go.RowKit Go.Maps

theorem row_texts2 {w : World} {B : Nat} {u : Value} {ss : List (List UInt8)} (h : w.ownsRow B 9 1 u ss.length (ss.map encStr)) : ∃ A c, u = .slice A ss.length c ∧ TxAt w A ss.length ss ∧ ss.length ≤ maxLen ∧ ∀ b o, A = some ⟨b, o, none⟩ → B ≤ b ∧ b < w.heap.size := by
  obtain ⟨A, c, e, h1, h2⟩ := row_texts h
  refine ⟨A, c, e, h1, h2, fun b o hA => ?_⟩
  have hl := h.lt b (by rw [e, hA]; rfl)
  exact hl
theorem enc_name (n : ByteArray) : encStr n.data.toList = .string n := by simp [encStr]
theorem TxAt.keepB {w w' : World} {A : Option Addr} {m : Nat} {ss : List (List UInt8)} (h : TxAt w A m ss) (hs : w.heap.size ≤ w'.heap.size) (hk : ∀ b o, A = some ⟨b, o, none⟩ → w'.heap[b]? = w.heap[b]?) : TxAt w' A m ss := by
  refine ⟨h.1, fun hn => ?_⟩
  obtain ⟨b, o, hA, hlt, hc⟩ := h.2 hn
  exact ⟨b, o, hA, Nat.lt_of_lt_of_le hlt hs, fun i s hs => (World.cell?_of_block (a := ⟨b, o + i, none⟩) (hk b o hA)).trans (hc i s hs)⟩
theorem nmsK_snoc {kids : List CT} {j : Nat} {t : CT} (h : kids[j]? = some t) : (namesK (kids.take (j + 1))).map (fun n => n.data.toList) = (namesK (kids.take j)).map (fun n => n.data.toList) ++ nmsL t := by
  rw [namesK_snoc h, List.map_append]; rfl
def AllPost (w : World) (t : CT) (e : Ending) (w' : World) : Prop := ∃ u, e = .returned u ∧ w'.ownsRow w.heap.size 9 1 u (nmsL t).length ((nmsL t).map encStr) ∧ Below w.heap.size w w'
set_option maxHeartbeats 4000000 in
set_option maxRecDepth 100000 in
theorem rAll_any : ∀ (f D : Nat) (t : CT) (v0 v1 v2 v3 : Value) (w : World), CondAt w (· < w.heap.size) D t [v0, v1, v2, v3] → rightT f t = true → (namesT t).length ≤ 2000000 →
    Calls Try.prog 46 #[.agg #[v0, v1, v2, v3]] w (AllPost w t) := by
  intro f
  induction f with
  | zero => intro D t v0 v1 v2 v3 w _ h; cases h
  | succ f ih =>
    intro D t v0 v1 v2 v3 w ht hr hnl
    obtain ⟨d, k, n, v, kids, A, m, c, rfl, rfl, hcs, hn, hv, hm, hmc, hk⟩ := ht.form
    simp only [List.cons.injEq, and_true] at hcs
    obtain ⟨rfl, rfl, rfl, rfl⟩ := hcs
    obtain ⟨ha, hrk⟩ := right_kids hr
    have hleaf := right_leaf ha
    rw [hk.1] at hleaf
    have IH := Lib.hid ih
    clear ih ht hr ha
    have hbw := (Below.refl _ w).alloc (Nat.le_refl _) (.cells #[.int .i64 k, .string n, .string v, .slice A m c] 76)
    have hp0 : Blk (w.alloc (.cells #[.int .i64 k, .string n, .string v, .slice A m c] 76)) w.heap.size 76 #[.int .i64 k, .string n, .string v, .slice A m c] := Blk.new w _ _
    unfold maxLen at hm
    by_cases hm0 : m = 0
    · have HR := Lib.hid (show nmsL (.mk k n v kids) = [n.data.toList] by
        unfold nmsL
        rw [namesT, if_pos (hleaf.2 hm0), List.eq_nil_of_length_eq_zero (hk.1.trans hm0)]; rfl)
      subst hm0
      have hB := Blk.new (w.alloc (.cells #[.int .i64 k, .string n, .string v, .slice A 0 c] 76)) 9 #[.string n]
      clear hk hp0 hleaf
      go_enter Try.func46, Try.ntmps46
      go_wp2
      go_ret
      refine ⟨_, rfl, ?_, hbw.alloc (by simp) _⟩
      rw [HR.out]
      refine ⟨rfl, .inr ⟨w.heap.size + 1, 1, #[.string n], rfl, by omega, ?_, Nat.le_refl _, by unfold maxLen; omega, rfl, ?_⟩⟩
      · exact (by simpa using hB : Blk ((w.alloc (.cells #[.int .i64 k, .string n, .string v, .slice A 0 c] 76)).alloc (.cells #[.string n] 9)) (w.heap.size + 1) 9 #[.string n])
      · simp [enc_name]
    · have hmb : ((m : Int) == 0) = false := by simp; omega
      have hNK : namesT (.mk k n v kids) = namesK kids := by rw [namesT, if_neg (fun h => hm0 (hleaf.1 h)), List.nil_append]
      have HR := Lib.hid (show nmsL (.mk k n v kids) = (namesK kids).map (fun n => n.data.toList) by unfold nmsL; rw [hNK])
      rw [hNK] at hnl
      clear hm0 hNK hleaf
      have hbw2 := hbw.alloc (by simp) (.cells #[] 9)
      have hp1 := hp0.alloc (.cells #[] 9)
      have ho0 : ((w.alloc (.cells #[.int .i64 k, .string n, .string v, .slice A m c] 76)).alloc (.cells #[] 9)).ownsRow (w.heap.size + 1) 9 1 (.slice (some ⟨w.heap.size + 1, 0, none⟩) 0 0) ([] : List (List UInt8)).length (([] : List (List UInt8)).map encStr) :=
        ⟨rfl, .inr ⟨w.heap.size + 1, 0, #[], rfl, Nat.le_refl _, by simpa using heap_alloc_new (w.alloc (.cells #[.int .i64 k, .string n, .string v, .slice A m c] 76)) (.cells #[] 9), Nat.le_refl _, Nat.zero_le _, rfl, rfl⟩⟩
      go_enter Try.func46, Try.ntmps46
      go_wp2_with fail
      go_loopw [3, 4] (fun u i wr => ∃ (j : Nat) (acc : List (List UInt8)), j ≤ m ∧ i = .int .i64 j ∧ acc = (namesK (kids.take j)).map (fun n => n.data.toList) ∧ wr.ownsRow (w.heap.size + 1) 9 1 u acc.length (acc.map encStr) ∧ Blk wr w.heap.size 76 #[.int .i64 k, .string n, .string v, .slice A m c] ∧ Below w.heap.size w wr) (fun _ i _ => m - (intOf i).toNat)
      case atStart => exact ⟨0, [], Nat.zero_le _, rfl, rfl, ho0, hp1, hbw2⟩
      case round =>
        clear hp0 hp1 hbw hbw2 ho0
        obtain ⟨j, acc, hj, rfl, hacc, ho, hp, hb⟩ := hrel
        obtain ⟨p0, p1, p2, p3⟩ := blkc hp
        by_cases hlt : j < m
        · have hlt' : (j : Int) < (m : Int) := by omega
          have hj0 : (0 : Int) ≤ (j : Int) := by omega
          obtain ⟨b, o, t, k', n', v', B, q, c', rfl, hX, htj, e0, e1, e2, e3, ht⟩ := hk.kid hlt
          replace e0 := (hb.cell (p := ⟨b, o + j * 4, none⟩) hX).trans e0
          replace e1 := (hb.cell (p := ⟨b, o + j * 4 + 1, none⟩) hX).trans e1
          replace e2 := (hb.cell (p := ⟨b, o + j * 4 + 2, none⟩) hX).trans e2
          replace e3 := (hb.cell (p := ⟨b, o + j * 4 + 3, none⟩) hX).trans e3
          have hpl := hp.lt
          have hle := namesK_le kids (j + 1)
          have hsn := nmsK_snoc htj
          rw [namesK_snoc htj, List.length_append] at hle
          have hal : acc.length = (namesK (kids.take j)).length := by rw [hacc, List.length_map]
          have hnl2 : (nmsL t).length = (namesT t).length := by unfold nmsL; rw [List.length_map]
          have HC := Lib.hid (IH.out d t _ _ _ _ wr ((ht.keep (fun i hi => hb.block i hi)).mono (Y := (· < wr.heap.size)) fun i hi => Nat.lt_of_lt_of_le hi hb.size) (hrk t (List.mem_of_getElem? htj)) (by omega))
          have HSN := Lib.hid hsn
          have HACC := Lib.hid hacc
          have hob : ∀ g, u3.ownBlock = some g → g < wr.heap.size := fun g hg => (ho.lt g hg).2
          have hwb : w.heap.size + 1 ≤ wr.heap.size := by omega
          clear ht htj hk hrk hsn hacc
          go_wp2_with fail
          refine HC.out.mono ?_
          clear HC
          rintro e w1 ⟨u2, rfl, hrow, hb1⟩
          obtain ⟨A2, c2, rfl, htx, hlm, hrg⟩ := row_texts2 hrow
          have ho1 := own_below ho hb1
          have hp1 := hp.below hb1 hpl
          have hb2 := hb.trans (hb1.mono hb.size)
          have hw1 := hb1.size
          generalize hL : nmsL t = L at *
          have HL := Lib.hid hL
          clear hL hrow hb1 ho hp p0 p1 p2 p3 e0 e1 e2 e3
          unfold maxLen at hlm
          generalize hll : L.length = ll at *
          have HLL := Lib.hid hll
          clear hll
          obtain ⟨wo, hwo⟩ : ∃ wo, wo = wr := ⟨_, rfl⟩
          subst hwo
          go_wp2_with fail
          go_loopw [3, 6] (fun u i wi => ∃ (x : Nat) (ac : List (List UInt8)), x ≤ ll ∧ i = .int .i64 x ∧ acc ++ L.take x = ac ∧ wi.ownsRow (w.heap.size + 1) 9 1 u ac.length (ac.map encStr) ∧ TxAt wi A2 ll L ∧ w1.heap.size ≤ wi.heap.size ∧ Blk wi w.heap.size 76 #[.int .i64 k, .string n, .string v, .slice (some ⟨b, o, none⟩) m c] ∧ Below w.heap.size w wi ∧ (∀ g, u.ownBlock = some g → g < wo.heap.size ∨ w1.heap.size ≤ g)) (fun _ i _ => ll - (intOf i).toNat)
          case atStart => exact ⟨0, acc, Nat.zero_le _, rfl, by simp, ho1, htx, Nat.le_refl _, hp1, hb2, fun g hg => .inl (hob g hg)⟩
          case round =>
            clear ho1 htx hp1 hb2 hob
            obtain ⟨x, ac, hx, rfl, hac, ho, htx, hsz, hp, hb, hgo⟩ := hrel
            by_cases hltx : x < ll
            · have hltx' : (x : Int) < (ll : Int) := by omega
              have hx0 : (0 : Int) ≤ (x : Int) := by omega
              obtain ⟨g, og, rfl, hgl, hc⟩ := htx.2 (by omega)
              have hxl : x < L.length := by rw [HLL.out]; omega
              have f0 := hc x _ (List.getElem?_eq_getElem hxl)
              have hLx : L.take (x + 1) = L.take x ++ [L[x]] := by rw [List.take_add_one, List.getElem?_eq_getElem hxl]; rfl
              have hacl : ac.length + 1 ≤ 1000000000 := by
                rw [← hac, List.length_append]
                have := List.length_take_le x L
                omega
              obtain ⟨v9, w', hrun, ho9, hg9, hat⟩ := append_text (s := L[x]) 61 (ho.alloc (.cells #[.string ⟨L[x].toArray⟩] 9)) (Blk.new wr 9 #[.string ⟨L[x].toArray⟩]) hacl (by have := hb.size; simp; omega)
              obtain ⟨ac2, hac2⟩ : ∃ l, ac ++ [L[x]] = l := ⟨_, rfl⟩
              rw [hac2] at ho9
              have HA := Lib.hid (show acc ++ L.take (x + 1) = ac2 by rw [hLx, ← hac2, ← hac, List.append_assoc])
              have hown : ∀ g', u3.ownBlock = some g' → w.heap.size + 1 ≤ g' ∧ g' < wr.heap.size := fun g' hg' => ho.lt g' hg'
              have hblk : ∀ y, y < wr.heap.size → u3.ownBlock ≠ some y → w'.heap[y]? = wr.heap[y]? := fun y hy hne => (hg9.block y (by simp; omega) (fun e => hne e.symm)).trans (Below.heap_alloc _ _ _ hy)
              have htx9 := Lib.hid (htx.keepB (w' := w') (by have := hg9.size; simp at this; omega) fun b' o' hb' => by
                injection hb' with hb'; injection hb' with hb'
                subst hb'
                have hr := hrg g og rfl
                exact hblk g hgl (fun e => by have := hgo g e; omega))
              have hp9 := Lib.hid (show Blk w' w.heap.size 76 _ from (hblk w.heap.size hp.lt (fun e => by have := (hown _ e).1; omega)).trans hp)
              have hb9 := Lib.hid (show Below w.heap.size w w' from (hb.alloc hb.size _).grown hg9 (by have := hb.size; simp; omega) fun y hy => by have := (hown y hy).1; omega)
              have hs9 : wr.heap.size + 1 ≤ w'.heap.size := by have := hg9.size; simpa using this
              have hg10 := Lib.hid (show ∀ g', v9.ownBlock = some g' → g' < wo.heap.size ∨ w1.heap.size ≤ g' from fun g' hg' => by
                rcases hat with e | e
                · rw [e] at hg'; exact hgo g' hg'
                · rw [e] at hg'; injection hg' with hg'; simp at hg'; omega)
              have HO := Lib.hid ho9
              have HRUN := Lib.hid hrun
              generalize (⟨L[x].toArray⟩ : ByteArray) = sx at f0 HRUN
              clear hc hLx hrun ho9 hg9 hat hown hblk htx hp hb hgo hac ho hac2
              go_wp2_with (at_builtin; refine wpList_append_run rfl (.tmp 34) (.tmp 39) 61 rfl _ _ _ rfl rfl HRUN.out ?_)
              go_roundw
              case rel => exact ⟨x + 1, ac2, by omega, by go_num, HA.out, HO.out, htx9.out, by omega, hp9.out, hb9.out, hg10.out⟩
              case measure => simp [intOf]; omega
            · obtain rfl : x = ll := by omega
              have HA := Lib.hid (show acc ++ L = ac by rw [← hac, List.take_of_length_le (by rw [HLL.out]; omega)])
              have HO := Lib.hid ho
              have HP := Lib.hid hp
              clear hac ho hp htx hgo
              go_wp2
              go_roundw
              case rel => exact ⟨j + 1, ac, by omega, by go_num, by rw [HSN.out, ← HACC.out, HA.out], HO.out, HP.out, hb⟩
              case measure => simp [intOf]; omega
        · obtain rfl : j = m := by omega
          rw [List.take_of_length_le (by rw [hk.1]; omega)] at hacc
          have HO := Lib.hid ho
          have HACC := Lib.hid hacc
          clear ho hacc hk hrk
          go_wp2
          go_ret
          refine ⟨_, rfl, ?_, hb⟩
          rw [HR.out, ← HACC.out]
          exact row_base HO.out (by omega)
end Go.Proofs.Ytfgblmdmhgllgaa
