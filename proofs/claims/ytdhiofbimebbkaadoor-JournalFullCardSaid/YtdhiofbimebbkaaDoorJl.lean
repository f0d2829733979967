/- Put. -/
import Derived.Test.YtdhiofbimebbkaaDoorJf
import Derived.Test.YtdhiofbimebbkaaDoorJg
import Derived.Test.YtdhiofbimebbkaaDoorJi
import Derived.Test.YtdhiofbimebbkaaDoorJb
import Derived.StillTailTactics
namespace Go.Proofs.YtdhiofbimebbkaaDoor
open Go.RowKit Go.Maps
section
variable {w0 w w' w1 : World} {dp jp jm : Nat} {nm : ByteArray} {X Y : Nat → Prop} {s s' : Sta} {L : List Ent}
theorem JB.took {e : Ent} {v : Value} (h : JB w0 w dp jp jm nm X Y s L) (hg : w.grownBy w1 (some jm)) (hj : JAt (w1.setCell ⟨jp, 3, none⟩ v) jp jm dp nm (fun j => Y j ∨ j = e.b) (L ++ [e])) (hx : ¬ X e.b) (hw : w0.heap.size ≤ e.b) :
    JB w0 (w1.setCell ⟨jp, 3, none⟩ v) dp jp jm nm X (fun j => Y j ∨ j = e.b) s (L ++ [e]) where
  disk := h.disk.keep fun j hj' => (Below.heap_setCell w1 ⟨jp, 3, none⟩ v j (fun e' => h.sep jp h.jat.yj (by have e2 : j = jp := e'; rw [← e2]; exact hj'))).trans (hg.block j (h.disk.lt hj') (fun e' => by injection e' with e'; exact h.sep jm h.jat.ym (by rw [← e']; exact hj')))
  jat := hj
  sep := fun j hy hx' => by
    rcases hy with hy | rfl
    · exact h.sep j hy hx'
    · exact hx hx'
  own := fun j hj' => by
    rcases hj' with hj' | hj' | rfl
    · exact h.own j (.inl hj')
    · exact h.own j (.inr hj')
    · exact hw
  old := (h.old.grown hg h.old.size (fun j hj' => by injection hj' with hj'; rw [← hj']; exact h.own jm (.inr h.jat.ym))).setCell (p := ⟨jp, 3, none⟩) (h.own jp (.inr h.jat.yj)) v
/-- The store of an item more, then the size. -/
theorem JB.put {k : Nat} {data : List UInt8} {b o cap fn rl : Nat} (h : JB w0 w dp jp jm nm X Y s L) (hh : hasE L (k : Nat) = false) (hk : k ≤ 1099511627776) (hn : L.length < maxLen) (hb : BytesAt w (some ⟨b, o, none⟩) data.length data) (hc : data.length ≤ cap) (h1 : ¬ Y b) (h3 : b < w.heap.size) (hx : ¬ X b) (hw : w0.heap.size ≤ b) (hfn : fn = (fileL (itms L)).length) (hrl : rl = (recI (k, data)).length) :
    ∃ w1, (Instr.mapUpdate 52 (.map (some jm)) (.int .i64 (k : Nat)) (.slice (some ⟨b, o, none⟩) data.length cap)).run Tryd.prog w = .ok () w1 ∧ Blk w1 jp 54 #[.pointer (some ⟨dp, 0, none⟩), .string nm, .map (some jm), .int .i64 (fn : Nat)] ∧
      ∃ Y' L', JB w0 (w1.setCell ⟨jp, 3, none⟩ (.int .i64 ((fn : Int) + (rl : Int)))) dp jp jm nm X Y' s L' ∧ itms L' = itms L ++ [(k, data)] := by
  obtain ⟨e, he⟩ : ∃ e : Ent, e = ⟨k, data, b, o, cap⟩ := ⟨_, rfl⟩
  have e1 : e.key = k := by rw [he]
  have e2 : e.data = data := by rw [he]
  have e3 : e.b = b := by rw [he]
  have e4 : e.v = .slice (some ⟨b, o, none⟩) data.length cap := by rw [he]; rfl
  have e5 : e.itm = (k, data) := by rw [he]; rfl
  have e6 : e.o = o := by rw [he]
  have e7 : e.cap = cap := by rw [he]
  clear he
  obtain ⟨w1, r1, r2, r3, r4⟩ := h.jat.put (e := e) (by rw [e1]; exact hh) (by rw [e1]; exact hk) hn (by rw [e3, e6, e2]; exact hb) (by rw [e2, e7]; exact hc) (by rw [e3]; exact fun e => h1 (e ▸ h.jat.yj)) (by rw [e3]; exact fun e => h1 (e ▸ h.jat.ym)) (by rw [e3]; exact h3)
  have h6 := h.took r2 r4 (by rw [e3]; exact hx) (by rw [e3]; exact hw)
  have hln : (((fileL (itms (L ++ [e]))).length : Nat) : Int) = (fn : Int) + (rl : Int) := by
    rw [itms_snoc, fileL_snoc, List.length_append, e5, hfn, hrl]; omega
  rw [hln] at h6
  rw [e1, e4] at r1
  rw [← hfn] at r3
  exact ⟨w1, r1, r3, _, _, h6, by rw [itms_snoc, e5]⟩
set_option maxHeartbeats 2000000 in
set_option maxRecDepth 100000 in
theorem put_twice {A : Option Addr} {m c k : Nat} (h : JAt w jp jm dp nm Y L) (hk : k ≤ 1099511627776) (hm : m ≤ 90000000) (hh : hasE L (k : Nat) = true) : Calls Tryd.prog 9 #[.pointer (some ⟨jp, 0, none⟩), .int .i64 (k : Nat), .slice A m c] w fun e w' => e = .returned (.int .i64 5) ∧ w' = w := by
  have CH := Lib.hid (has_any h (wf_key hk))
  rw [hh] at CH
  have k0 : ¬ (k : Int) < 0 := by omega
  have k1 : ¬ (1099511627776 : Int) < (k : Int) := by omega
  have m0 : ¬ (536870912 : Int) < (m : Int) := by omega
  clear h hh
  go_enter Tryd.func9, Tryd.ntmps9
  go_wp2_with fail
  refine CH.out.mono ?_
  rintro e w1 ⟨rfl, rfl⟩
  go_wp2
  go_ret
  exact ⟨rfl, rfl⟩
def NewRow (w : World) (B : Nat) (v : Value) (xs : List UInt8) : Prop := w.ownsRow B 5 1 v xs.length (xs.map u8V)
set_option maxHeartbeats 2000000 in
set_option maxRecDepth 100000 in
theorem put_new {A : Option Addr} {m c k : Nat} {data : List UInt8} (h : JB w0 w dp jp jm nm X Y s L) (ok : Ok s) (hb : BytesAt w A m data) (hk : k ≤ 1099511627776) (hm : m ≤ 90000000) (hn : nm.size ≤ maxLen) (ht : TabAt w) (hL : L.length < maxLen) (hF : (fileL (itms L)).length ≤ 1000000000) (hh : hasE L (k : Nat) = false) :
    Calls Tryd.prog 9 #[.pointer (some ⟨jp, 0, none⟩), .int .i64 (k : Nat), .slice A m c] w (JRes w0 dp jp jm nm (putS nm.data.toList k data (s, itms L))) := by
  have CH := Lib.hid (has_any h.jat (wf_key hk))
  rw [hh] at CH
  have hS : putS nm.data.toList k data (s, itms L) = ((appendS nm.data.toList (recI (k, data)) s).1, (appendS nm.data.toList (recI (k, data)) s).2, if (appendS nm.data.toList (recI (k, data)) s).1 = 0 then itms L ++ [(k, data)] else itms L) := by
    unfold putS; rw [if_neg (by rw [← hasE_hasK, hh]; decide)]
  have HS := Lib.hid hS
  have k0 : ¬ (k : Int) < 0 := by omega
  have k1 : ¬ (1099511627776 : Int) < (k : Int) := by omega
  have m0 : ¬ (536870912 : Int) < (m : Int) := by omega
  have C1 := Lib.hid (num_any (w := w) (A := none) (m := 0) (c := 0) (bs := []) ⟨rfl, fun h => absurd h (Nat.lt_irrefl 0)⟩ (by decide) (k : Nat))
  rw [List.nil_append, show numC ((k : Nat) : Int) = k by unfold numC; omega] at C1
  have H := Lib.hid h
  have HB := Lib.hid hb
  have HT := Lib.hid ht
  have HH := Lib.hid hh
  have HDL := Lib.hid hb.1
  have HOK := Lib.hid ok
  clear h hb ht hh hS ok
  go_enter Tryd.func9, Tryd.ntmps9
  go_wp2_with fail
  refine CH.out.mono ?_
  rintro e w1 ⟨rfl, rfl⟩
  go_wp2_with fail
  refine C1.out.mono ?_
  rintro e w1 ⟨v1, rfl, hr1, hb1⟩
  obtain ⟨A1, c1, rfl, hy1, hl1⟩ := row_bytes hr1
  obtain ⟨kk, hkk⟩ : ∃ kk, kk = (numL k).length := ⟨_, rfl⟩
  have hkl := numL_len k
  rw [← hkk] at hy1 hkl
  have hd1 := HB.out.below hb1
  have hkpos : 0 < kk := by omega
  rw [← hkk]
  have HKK := Lib.hid hkk
  clear hkk
  have hb2 : Below w1.heap.size w1 (w1.alloc (.cells #[.slice A1 kk c1, .slice A m c] 30)) := (Below.refl _ w1).alloc (Nat.le_refl _) _
  have C2 := Lib.hid (concat_any (w := w1.alloc (.cells #[.slice A1 kk c1, .slice A m c] 30)) (b := w1.heap.size) (c := c1) (d := c) (Blk.cell (Blk.new w1 _ _) 0) (Blk.cell (Blk.new w1 _ _) 1) (by simp) (hy1.below hb2) (hd1.below hb2) hkpos (by omega) (by omega))
  have HB1 := Lib.hid hb1.size
  have HB2 := Lib.hid (hb1.trans (hb2.mono hb1.size))
  clear hb1 hb2 hy1 hd1 hr1 C1 CH
  go_wp2_with fail
  refine C2.out.mono ?_
  rintro e w2 ⟨v2, rfl, hr2, hb3⟩
  have hx2 : ∃ A2 c2, v2 = .slice A2 (numL k ++ data).length c2 ∧ BytesAt w2 A2 (numL k ++ data).length (numL k ++ data) ∧ (∀ b o, A2 = some ⟨b, o, none⟩ → w1.heap.size ≤ b) ∧ (numL k ++ data).length ≤ c2 ∧ c2 ≤ maxLen := by
    obtain ⟨A2, c2, e2, hy2, hl2⟩ := row_bytes hr2
    obtain ⟨A3, c3, e3, q1, q2⟩ := row_shape (row_base hr2 (Nat.zero_le _))
    rw [e2] at e3; injection e3 with _ _ e3
    exact ⟨A2, c2, e2, hy2, fun b o e => by have := hl2 b o e; simp at this; omega, by rw [e3]; exact q1, by rw [e3]; exact q2⟩
  obtain ⟨A2, c2, rfl, hy2, hl2, q1, q2⟩ := hx2
  obtain ⟨ql, hql⟩ : ∃ ql, ql = (numL k ++ data).length := ⟨_, rfl⟩
  rw [← hql] at hy2 q1 ⊢
  have hqd : ql = kk + m := by rw [hql, List.length_append, HKK.out, HDL.out]
  obtain ⟨pb, po, rfl, hpl, _⟩ := hy2.2 (by omega)
  have hpl0 := hl2 pb po rfl
  have hw2 : Below w.heap.size w w2 := HB2.out.trans (hb3.mono (by have := HB2.out.size; simpa using this))
  have C3 := Lib.hid (record_any (c := c2) hy2 (by omega) (HT.out.below hw2))
  have HW2 := Lib.hid hw2
  have HY2 := Lib.hid hy2
  have HP := Lib.hid (show pb < w2.heap.size ∧ w.heap.size ≤ pb ∧ ql = kk + m ∧ ql ≤ c2 ∧ c2 ≤ maxLen from ⟨hpl, Nat.le_trans HB1.out hpl0, hqd, q1, q2⟩)
  have HQL := Lib.hid hql
  clear hy2 hr2 hb3 hl2 hql hqd hw2 hpl hpl0 q1 q2 C2
  go_wp2_with fail
  refine C3.out.mono ?_
  rintro e w3 ⟨v3, rfl, hr3, hb4⟩
  obtain ⟨A3, c3, rfl, hy3, hl3⟩ := row_bytes hr3
  obtain ⟨rl, hrl⟩ : ∃ rl, rl = (recL (numL k ++ data)).length := ⟨_, rfl⟩
  rw [← hrl] at hy3 ⊢
  have hrq : rl = ql + 8 := by rw [hrl, recL_len, HQL.out]
  have hw3 : Below w.heap.size w w3 := HW2.out.trans (hb4.mono HW2.out.size)
  have h3 := H.out.below hw3
  obtain ⟨g0, g1, g2, g3, gf1, gf2, gf3⟩ := blk4 h3.jat.top
  have CA := Lib.hid ((h3.disk.keep (w' := w3.drew) fun _ _ => rfl).append HOK.out nm hn (A := A3) (m := rl) (c := c3) (bs := recL (numL k ++ data)) (hy3.keep (w' := w3.drew) (fun _ _ _ _ _ => rfl) (Nat.le_refl _)) (fun _ b o e e2 => by
    have := hl3 b o e
    have := h3.disk.lt h3.disk.dp_in
    have h5 := H.out.disk.lt H.out.disk.dp_in
    have := HW2.out.size
    omega) (by have := HP.out; omega))
  have H3 := Lib.hid h3
  have HW3 := Lib.hid (show Below w2.heap.size w2 w3 from hb4)
  have HRL := Lib.hid hrl
  have HRQ := Lib.hid hrq
  clear h3 hr3 hb4 hy3 hl3 hrl hrq hw3 C3
  obtain ⟨fn, hfn⟩ : ∃ fn : Nat, fn = (fileL (itms L)).length := ⟨_, rfl⟩
  rw [← hfn] at g3
  have HFN := Lib.hid hfn
  have hFN : fn ≤ 1000000000 := by rw [hfn]; exact hF
  clear hfn
  go_wp2_with fail
  go_still_tail 9, (by kernel_rfl)
  change wpList _ _ _ _ _ w3.drew
  go_wp2_with fail
  refine CA.out.mono ?_
  rintro e w4 ⟨rfl, ha⟩
  have hrec : recL (numL k ++ data) = recI (k, data) := rfl
  rw [hrec] at ha ⊢
  have hkX : ∀ b, w.heap.size ≤ b → ¬ X b := fun b hb' hx => by have := H.out.disk.lt hx; omega
  obtain ⟨X', hd4, hg4, hk4⟩ := ha
  have hs4 := hk4.size
  have hs3 := HW3.out.size
  have hs2 := HW2.out.size
  have hpx' : ¬ X' pb := fun hx => by
    rcases hg4 pb hx with h5 | h5
    · exact hkX pb HP.out.2.1 h5
    · have : w3.drew.heap.size ≤ pb := h5
      have h6 := HP.out.1
      have h7 : w3.heap.size ≤ pb := this
      omega
  have h4 : JB w0 w4 dp jp jm nm X' Y (appendS nm.data.toList (recI (k, data)) s).2 L := by
    have h3 := H3.out
    refine ⟨hd4, (h3.jat.keep (w' := w3.drew) (fun _ _ => rfl) (Nat.le_refl _)).kept hk4 h3.sep, fun j hy hx => ?_, fun j hj => ?_, ?_⟩
    · rcases hg4 j hx with h5 | h5
      · exact h3.sep j hy h5
      · have := h3.jat.lt j hy
        have h7 : w3.heap.size ≤ j := h5
        omega
    · rcases hj with hj | hj
      · rcases hg4 j hj with h5 | h5
        · exact h3.own j (.inl h5)
        · have := h3.old.size
          have h7 : w3.heap.size ≤ j := h5
          omega
      · exact h3.own j (.inr hj)
    · have h5 : Below w0.heap.size w0 w3.drew := ⟨h3.old.os, h3.old.tape, h3.old.output, h3.old.size, h3.old.block⟩
      exact h5.trans (hk4.below (by have := h3.old.size; exact this) fun j hj => h3.own j (.inl hj))
  have hy4 : BytesAt w4 (some ⟨pb, po, none⟩) ql (numL k ++ data) := by
    refine HY2.out.keep (fun _ b o e hlt => ?_) (by have : w3.heap.size ≤ w4.heap.size := hs4; omega)
    injection e with e; injection e with e _ _
    subst e
    have hp := HP.out.1
    have e1 := HW3.out.block pb hp
    have e2 : w4.heap[pb]? = w3.heap[pb]? := hk4.block pb (by show pb < w3.heap.size; omega) (hkX pb HP.out.2.1)
    rw [e2, e1]
  obtain ⟨cd, hcd⟩ : ∃ cd, cd = (appendS nm.data.toList (recI (k, data)) s).1 := ⟨_, rfl⟩
  rw [← hcd]
  have hSS := HS.out
  rw [← hcd] at hSS
  have H4 := Lib.hid h4
  have H5 := Lib.hid (h4.below (w' := w4.drew) ⟨rfl, rfl, rfl, Nat.le_refl _, fun _ _ => rfl⟩)
  have HY4 := Lib.hid (hy4.keep (w' := w4.drew) (fun _ _ _ _ _ => rfl) (Nat.le_refl _))
  have HPX := Lib.hid hpx'
  have HPL := Lib.hid (show pb < w4.heap.size by have : w3.heap.size ≤ w4.heap.size := hs4; have := HP.out.1; omega)
  clear h4 hy4 hpx' hd4 hg4 hk4 hkX hs4 hs3 hs2 hrec hcd CA g0 g1 g2 g3 gf1 gf2 gf3
  rcases Int.decEq cd 0 with hc0 | hc0
  · rw [if_neg hc0] at hSS
    have HE := Lib.hid (show JRes w0 dp jp jm nm (putS nm.data.toList k data (s, itms L)) (.returned (.int .i64 cd)) w4 from by rw [hSS]; exact ⟨rfl, X', Y, L, H4.out, rfl⟩)
    clear hSS
    go_wp2
    go_ret
    exact HE.out
  · subst hc0
    rw [if_pos rfl] at hSS
    obtain ⟨oo, hoo⟩ : ∃ oo, oo = (if c2 = kk then po else po + kk) := ⟨_, rfl⟩
    have hdat : BytesAt w4.drew (some ⟨pb, oo, none⟩) m data := by
      have hh := HP.out
      have h := HY4.out.from (k := kk) (c := c2) (by omega) (by omega)
      rw [show (numL k ++ data).drop kk = data by rw [HKK.out, List.drop_left' rfl], show ql - kk = m by omega] at h
      rw [hoo]
      split at h
      · rename_i h0; rw [if_pos h0]; exact h
      · rename_i h0; rw [if_neg h0]; exact h
    have hdl : data.length = m := HDL.out
    have hnY : ¬ Y pb := fun hy => by have := H.out.jat.lt pb hy; have := HP.out; omega
    obtain ⟨w5, r1, r3, Y5, L5, h6, h7⟩ := H5.out.put (fn := fn) (rl := rl) (cap := c2 - kk) HH.out hk hL (by rw [hdl]; exact hdat) (by have := HP.out; omega) hnY HPL.out HPX.out (by have := HP.out; have := H.out.old.size; omega) HFN.out HRL.out
    rw [hdl] at r1
    obtain ⟨g0, g1, g2, g3, gf1, gf2, gf3⟩ := blk4 H5.out.jat.top
    obtain ⟨e0, e1, e2, e3, ef1, ef2, ef3⟩ := blk4 r3
    rw [← HFN.out] at g3
    have HE := Lib.hid (show JRes w0 dp jp jm nm (putS nm.data.toList k data (s, itms L)) (.returned (.int .i64 0)) (w5.setCell ⟨jp, 3, none⟩ (.int .i64 ((fn : Int) + (rl : Int)))) from by rw [hSS]; exact ⟨rfl, X', Y5, L5, h6, h7⟩)
    have HR1 := Lib.hid r1
    have HOO := Lib.hid hoo
    clear hSS hdat hdl hnY r1 r3 h6 h7 hoo
    have hh := HP.out
    have kI0 : (0 : Int) ≤ (kk : Int) := by omega
    have kI1 : (kk : Int) ≤ (ql : Int) := by omega
    have kI2 : (ql : Int) ≤ (c2 : Int) := by omega
    have hqk : ql - kk = m := by omega
    have R1 : (Instr.mapUpdate 52 (.map (some jm)) (.int .i64 (k : Nat)) (.slice (if c2 = kk then some ⟨pb, po, none⟩ else some ⟨pb, po + kk, none⟩) (ql - kk) (c2 - kk))).run Tryd.prog w4.drew = .ok () w5 := by
      have h := HR1.out
      rw [HOO.out] at h
      rw [hqk]
      split
      · rename_i h0; rw [if_pos h0] at h; exact h
      · rename_i h0; rw [if_neg h0] at h; exact h
    have w0' : IntKind.i64.wrap ((fn : Int) + (rl : Int)) = (fn : Int) + (rl : Int) := by
      have := HRQ.out
      rw [IntKind.wrap_i64]; omega
    clear hh hqk kI2
    go_wp2_with fail
    go_still_tail 9, (by kernel_rfl)
    change wpList _ _ _ _ _ w4.drew
    go_wp2
    all_goals
      go_ret
      exact HE.out
end
end Go.Proofs.YtdhiofbimebbkaaDoor
