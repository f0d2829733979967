/- rex.writer.goOn whole; rex.Text. -/
import Derived.Test.YtjnhmcgjeljcmaaWpa
import Derived.Test.YtjnhmcgjeljcmaaWpb
import Derived.Deep.LoopGhost
namespace Go.Proofs.Ytjnhmcgjeljcmaa
open Go.RowKit

theorem goOn_more (B b d : Nat) (o : List UInt8) (fs : List Fr) (f : Fr) (t : Tr) (w : World) (h : WrAt B b d o (fs ++ [f]) w) (hB : B ≤ w.heap.size) (hkid : f.kids[f.next]? = some t) (ho : o.length ≤ 1000000000) (hfl : fs.length ≤ 900000) :
    Calls Try.prog 37 #[.pointer (some ⟨b, 0, none⟩)] w (BPost B b d (o ++ (sepT f ++ nowT (within f.kind t) t)) (fs ++ [{ f with next := f.next + 1 }] ++ openT (within f.kind t) t) w) := by
  by_cases h3 : kindOf t = 3
  · by_cases k3 : f.kind = 3
    · by_cases hn : f.next = 0
      · exact goOn_S2_W1 B b d o fs f t w h hB hkid k3 hn h3 ho hfl
      · exact goOn_S1_W1 B b d o fs f t w h hB hkid k3 (by omega) h3 ho hfl
    · exact goOn_S3_W1 B b d o fs f t w h hB hkid k3 h3 ho hfl
  · by_cases h2 : kindOf t = 2
    · by_cases k3 : f.kind = 3
      · by_cases hn : f.next = 0
        · exact goOn_S2_W3 B b d o fs f t w h hB hkid k3 hn h2 ho hfl
        · exact goOn_S1_W3 B b d o fs f t w h hB hkid k3 (by omega) h2 ho hfl
      · exact goOn_S3_W2 B b d o fs f t w h hB hkid k3 h2 ho hfl
    · by_cases k3 : f.kind = 3
      · by_cases hn : f.next = 0
        · exact goOn_S2_W4 B b d o fs f t w h hB hkid k3 hn h3 h2 ho hfl
        · exact goOn_S1_W4 B b d o fs f t w h hB hkid k3 (by omega) h3 h2 ho hfl
      · exact goOn_S3_W4 B b d o fs f t w h hB hkid k3 h3 h2 ho hfl
/-- One step: what is written and what is still to be written stay the same text; a step less is left. -/
theorem goOn_any (B b d : Nat) (o : List UInt8) (fs : List Fr) (w : World) (h : WrAt B b d o fs w) (hB : B ≤ w.heap.size) (hne : fs ≠ []) (ho : (o ++ pend fs).length ≤ 1000000000) (hfl : work fs ≤ 900000) :
    Calls Try.prog 37 #[.pointer (some ⟨b, 0, none⟩)] w fun e w' => e = .returned (.tuple #[]) ∧ Below B w w' ∧ ∃ o' fs', WrAt B b d o' fs' w' ∧ o' ++ pend fs' = o ++ pend fs ∧ work fs' + 1 = work fs := by
  obtain ⟨gs, f, rfl⟩ : ∃ gs f, fs = gs ++ [f] := ⟨fs.dropLast, fs.getLast hne, (List.dropLast_concat_getLast hne).symm⟩
  have hwl := work_len (gs ++ [f])
  have hgl : gs.length ≤ 900000 := by simp at hwl; omega
  have hx : f.next ≤ f.kids.length := by
    obtain ⟨ov, cells, hw, hown, hfs⟩ := h
    obtain ⟨v0, v1, v2, v3, _, _, _, _, A, n, c, _, _, _, _, hx⟩ := hfs.2 gs.length f (by simp)
    exact hx
  rw [pend_snoc] at ho ⊢
  rw [work_snoc] at hfl ⊢
  rw [List.length_append] at ho
  rcases Nat.eq_or_lt_of_le hx with he | hl
  · rw [end_text f he, List.length_append] at ho
    refine (goOn_end B b d o gs f w h hB he (by omega) (by omega)).mono ?_
    rintro e w' ⟨rfl, h1, h2⟩
    refine ⟨rfl, h2, _, _, h1, ?_, ?_⟩
    · rw [end_text f he, List.append_assoc]
    · rw [end_work f he]
  · have hk : f.kids[f.next]? = some f.kids[f.next] := List.getElem?_eq_getElem hl
    generalize f.kids[f.next] = t at hk
    refine (goOn_more B b d o gs f t w h hB hk (by omega) hgl).mono ?_
    rintro e w' ⟨rfl, h1, h2⟩
    refine ⟨rfl, h2, _, _, h1, ?_, ?_⟩
    · rw [goOn_text f t hk]
      have : pend (gs ++ [{ f with next := f.next + 1 }] ++ openT (within f.kind t) t) = pend (openT (within f.kind t) t) ++ (restF { f with next := f.next + 1 } ++ pend gs) := by
        rw [← pend_snoc]
        simp [pend]
      rw [this]
      simp
    · rw [goOn_work f t hk]
      have : work (gs ++ [{ f with next := f.next + 1 }] ++ openT (within f.kind t) t) = work gs + workF { f with next := f.next + 1 } + work (openT (within f.kind t) t) := by
        rw [← work_snoc]; simp [work]; omega
      rw [this]; omega
set_option maxHeartbeats 1000000 in
set_option maxRecDepth 100000 in
theorem text_any (t : Tr) (d : Nat) (k : Int) (A : Option Addr) (n c : Nat) (A' : Option Addr) (n' c' : Nat) (w : World) (ht : TreeAt w (· < w.heap.size) d t [.int .i64 k, .slice A n c, .slice A' n' c']) (hl : (bodyT t).length ≤ 1000000000) (hs : stepsT t ≤ 900000) :
    Calls Try.prog 17 #[.agg #[.int .i64 k, .slice A n c, .slice A' n' c']] w fun e w' => e = .returned (.string ⟨(bodyT t).toArray⟩) ∧ Below w.heap.size w w' := by
  go_enter Try.func17, Try.ntmps17
  go_wp2_with fail
  obtain ⟨W0, hW0⟩ : ∃ W0, W0 = (w.alloc (.cells #[.int .i64 k, .slice A n c, .slice A' n' c'] 26)).alloc (.cells #[.pointer none, .slice none 0 0, .slice none 0 0] 97) := ⟨_, rfl⟩
  rw [← hW0]
  have hs0 : W0.heap.size = w.heap.size + 2 := by rw [hW0]; simp
  have hb0 : Below w.heap.size w W0 := by rw [hW0]; exact ((Below.refl _ w).alloc (Nat.le_refl _) _).alloc (by simp) _
  have hwr : WrAt w.heap.size (w.heap.size + 1) d [] [] W0 := by
    refine ⟨.slice none 0 0, [], .inl ⟨by omega, .slice none 0 0, ?_, World.ownsRow_nil _ _ _ _⟩, World.ownsRow_nil _ _ _ _, FrsAt.nil _ _ _⟩
    rw [hW0]
    have := Blk.new (w.alloc (.cells #[.int .i64 k, .slice A n c, .slice A' n' c'] 26)) 97 #[.pointer none, .slice none 0 0, .slice none 0 0]
    simpa using this
  refine (begin_any w.heap.size (w.heap.size + 1) d [] [] W0 hwr (by omega) false t k A n c A' n' c' (ht.keep fun j hj => hb0.block j hj) (by simp) (by simp)).mono ?_
  rintro e w1 ⟨rfl, hw1, b1⟩
  simp only [List.nil_append] at hw1
  have hbt := begin_text false t (by simp)
  have hbw := begin_work false t
  simp only [wrapP, Bool.false_eq_true, if_false] at hbt
  have hc1 := hb0.trans b1
  have HW1 := Lib.hid hw1
  clear hw1 hwr hW0
  go_wp2_with fail
  go_loopg [6] (stepsT t + 1) (fun gn _ wr => ∃ (o : List UInt8) (fs : List Fr), gn = work fs + 1 ∧ work fs ≤ stepsT t ∧ o ++ pend fs = bodyT t ∧ WrAt w.heap.size (w.heap.size + 1) d o fs wr ∧ Below w.heap.size w wr)
  case atStart => exact ⟨nowT false t, openT false t, by rw [hbw], by rw [hbw]; exact Nat.le_refl _, hbt, HW1.out, hc1⟩
  case round =>
    obtain ⟨o, fs, rfl, hwk, htx, hwr, hbr⟩ := hrel
    have hBr := hbr.size
    have HWR := Lib.hid hwr
    obtain ⟨ov, cells, hw, hown, hfs⟩ := hwr
    obtain ⟨p, v, hp, hBb, hbk, hv⟩ := hw.split
    obtain ⟨q0, q1, q2, f0, f1, f2⟩ := blk3 hbk
    obtain ⟨ao, cp, rfl⟩ : ∃ ao cp, ov = .slice ao fs.length cp := by
      rcases hown.2 with ⟨rfl, h0⟩ | ⟨g, cap, cur, rfl, _⟩
      · exact ⟨none, 0, by rw [h0]⟩
      · exact ⟨_, _, rfl⟩
    by_cases hne : fs = []
    · subst hne
      have htx' : o = bodyT t := by simpa [pend] using htx
      have HTX := Lib.hid htx'
      clear htx htx' hv hown hfs
      go_wp2_with fail
      refine (wtext w.heap.size (w.heap.size + 1) o _ _ hw (by omega)).mono ?_
      rintro e w2 ⟨rfl, b2⟩
      go_wp2
      go_ret
      exact ⟨by rw [← HTX.out]; rfl, hbr.trans b2⟩
    · have hpos : (0 : Int) < (fs.length : Int) := by
        have : fs.length ≠ 0 := by simpa using hne
        omega
      have HTX := Lib.hid htx
      clear htx hv hown hfs hw
      go_wp2_with fail
      refine (goOn_any w.heap.size (w.heap.size + 1) d o fs _ HWR.out (by omega) hne (by rw [HTX.out]; exact hl) (by omega)).mono ?_
      rintro e w2 ⟨rfl, b2, o', fs', h1, h2, h3⟩
      go_wp2
      go_roundg (work fs' + 1)
      case measure => omega
      case rel => exact ⟨o', fs', rfl, by omega, by rw [h2]; exact HTX.out, h1, hbr.trans b2⟩
end Go.Proofs.Ytjnhmcgjeljcmaa
