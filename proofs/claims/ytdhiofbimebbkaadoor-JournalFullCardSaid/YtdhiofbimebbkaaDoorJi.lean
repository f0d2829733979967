/- take: a journal takes the records with which bytes begin. -/
import Derived.Test.YtdhiofbimebbkaaDoorJf
import Derived.Test.YtdhiofbimebbkaaDoorJg
namespace Go.Proofs.YtdhiofbimebbkaaDoor
open Go.RowKit Go.Maps
theorem GoodL_at : ∀ (its acc : List Itm) (j : Nat) (x : Itm), GoodL acc its → its[j]? = some x → GoodI x ∧ hasK (acc ++ its.take j) x.1 = false
  | [], _, _, _, _, h => by cases h
  | y :: r, acc, 0, x, h, hx => by
    obtain rfl : y = x := by simpa using hx
    exact ⟨h.1, by simpa using h.2.1⟩
  | y :: r, acc, j + 1, x, h, hx => by
    have := GoodL_at r (acc ++ [y]) j x h.2.2 (by simpa using hx)
    simpa using this
theorem fileL_app (a b : List Itm) : fileL (a ++ b) = fileL a ++ fileL b := by unfold fileL; rw [List.flatMap_append]
/-- Bytes that are a beginning of good records. -/
def CleanB (its : List Itm) (bs : List UInt8) : Prop := GoodL [] its ∧ ∃ m, bs = (fileL its).take m
theorem clean_step {its : List Itm} {bs : List UInt8} (h : CleanB its bs) {j : Nat} (hj : j ≤ its.length) (hi : (fileL (its.take j)).length ≤ bs.length) :
    (splitL (bs.drop (fileL (its.take j)).length) = none ∧ scanL (its.take j) (bs.drop (fileL (its.take j)).length) = its.take j) ∨
    ∃ x, its[j]? = some x ∧ GoodI x ∧ hasK (its.take j) x.1 = false ∧ splitL (bs.drop (fileL (its.take j)).length) = some (payI x, (recI x).length) ∧ (fileL (its.take j)).length + (recI x).length ≤ bs.length ∧
      its.take (j + 1) = its.take j ++ [x] ∧ scanL (its.take j) (bs.drop (fileL (its.take j)).length) = scanL (its.take (j + 1)) (bs.drop (fileL (its.take (j + 1))).length) := by
  obtain ⟨hG, m, hm⟩ := h
  have hd : bs.drop (fileL (its.take j)).length = (fileL (its.drop j)).take (m - (fileL (its.take j)).length) := by
    rw [hm, List.drop_take]
    congr 1
    conv => lhs; rw [← List.take_append_drop j its, fileL_app]
    rw [List.take_append_drop, List.drop_left' rfl]
  have hl := congrArg List.length hm
  rw [List.length_take] at hl
  cases hx : its[j]? with
  | none =>
    have hjl : its.length ≤ j := by simpa using hx
    have e : bs.drop (fileL (its.take j)).length = [] := by rw [hd, List.drop_eq_nil_of_le hjl]; simp [fileL]
    rw [e]
    exact .inl ⟨splitL_nil, scanL_none splitL_nil⟩
  | some x =>
    obtain ⟨hg, hk⟩ := GoodL_at its [] j x hG hx
    rw [List.nil_append] at hk
    have ht : its.take (j + 1) = its.take j ++ [x] := by rw [List.take_add_one, hx]; rfl
    have hdx : its.drop j = x :: its.drop (j + 1) := by
      have hlt := (List.getElem?_eq_some_iff.1 hx).1
      rw [List.drop_eq_getElem_cons hlt, (List.getElem?_eq_some_iff.1 hx).2]
    rw [hdx, fileL_cons] at hd
    rcases Nat.lt_or_ge (m - (fileL (its.take j)).length) (recI x).length with hlt | hge
    · have e : bs.drop (fileL (its.take j)).length = (recI x).take (m - (fileL (its.take j)).length) := by
        rw [hd, List.take_append_of_le_length (Nat.le_of_lt hlt)]
      have h1 := payI_len x
      have h2 := hg.2
      have hs : splitL ((recI x).take (m - (fileL (its.take j)).length)) = none := by
        unfold recI at hlt ⊢
        rw [recL_len] at hlt
        exact splitL_cut (by omega) hlt
      rw [e]
      exact .inl ⟨hs, scanL_none hs⟩
    · have hf : (fileL its).length = (fileL (its.take j)).length + ((recI x).length + (fileL (its.drop (j + 1))).length) := by
        conv => lhs; rw [← List.take_append_drop j its, fileL_app, hdx, fileL_cons, List.length_append, List.length_append]
      have e : bs.drop (fileL (its.take j)).length = recI x ++ (fileL (its.drop (j + 1))).take (m - (fileL (its.take j)).length - (recI x).length) := by
        rw [hd, List.take_append, List.take_of_length_le hge]
      have hln : (fileL (its.take (j + 1))).length = (fileL (its.take j)).length + (recI x).length := by
        rw [ht, fileL_snoc, List.length_append]
      refine .inr ⟨x, rfl, hg, hk, ?_, by omega, ht, ?_⟩
      · rw [e]; exact splitL_item hg _
      · rw [hln, ← List.drop_drop, e, List.drop_left' rfl, scanL_item hg hk, ht]
theorem dV_some (b o m c k : Nat) : dV b o m c k = .slice (some ⟨b, if c = k then o else o + k, none⟩) (m - k) (c - k) := by unfold dV; split <;> rfl
section
variable {w w' : World} {jp jm dp : Nat} {nm : ByteArray} {Y : Nat → Prop} {L : List Ent}
theorem tab_ne (ht : TabAt w) (h : JAt w jp jm dp nm Y L) : 0 ≠ jp ∧ 0 ≠ jm := by
  refine ⟨fun e => ?_, fun e => ?_⟩
  · have h1 := ht.1 0 (by decide)
    have h2 := Blk.cell h.top 0
    subst e
    rw [h2] at h1
    cases h1
  · have h1 := ht.1 0 (by decide)
    obtain ⟨es, clock, hb, _⟩ := h.mp
    subst e
    simp [World.cell?, hb] at h1
theorem TabAt.keptJ (ht : TabAt w) (hne : 0 ≠ jp ∧ 0 ≠ jm) (hk : Kept (fun i => i = jp ∨ i = jm) w w') : TabAt w' :=
  ⟨fun i hi => (World.cell?_of_block (a := ⟨0, i, none⟩) (hk.block 0 ht.2 (by rintro (h | h); exact hne.1 h; exact hne.2 h))).trans (ht.1 i hi), Nat.lt_of_lt_of_le ht.2 hk.size⟩
/-- Where take is: how many items it has. -/
structure TakeR (w wr : World) (jp jm dp : Nat) (nm : ByteArray) (Y : Nat → Prop) (its : List Itm) (bs : List UInt8) (j : Nat) : Prop where
  at_ : ∃ L Y', JAt wr jp jm dp nm Y' L ∧ itms L = its.take j ∧ (∀ i, Y' i → Y i ∨ w.heap.size ≤ i)
  le : j ≤ its.length
  len : (fileL (its.take j)).length ≤ bs.length
  scan : scanL [] bs = scanL (its.take j) (bs.drop (fileL (its.take j)).length)
  kept : Kept (fun i => i = jp ∨ i = jm) w wr
def TakePost (w : World) (jp jm dp : Nat) (nm : ByteArray) (Y : Nat → Prop) (bs : List UInt8) (e : Ending) (w' : World) : Prop :=
  e = .returned (.tuple #[]) ∧ (∃ L Y', JAt w' jp jm dp nm Y' L ∧ itms L = scanL [] bs ∧ (∀ i, Y' i → Y i ∨ w.heap.size ≤ i)) ∧ Kept (fun i => i = jp ∨ i = jm) w w'
set_option maxHeartbeats 2000000 in
set_option maxRecDepth 100000 in
theorem take_some {b o m c : Nat} {bs : List UInt8} {its : List Itm} (h : JAt w jp jm dp nm Y []) (hb : BytesAt w (some ⟨b, o, none⟩) m bs) (hmc : m ≤ c) (hcm : c ≤ maxLen) (hm : m ≤ 1000000000) (h1 : b ≠ jp) (h2 : b ≠ jm) (hbl : b < w.heap.size) (ht : TabAt w) (hC : CleanB its bs) (hil : its.length ≤ 100000000) :
    Calls Tryd.prog 22 #[.pointer (some ⟨jp, 0, none⟩), .slice (some ⟨b, o, none⟩) m c] w (TakePost w jp jm dp nm Y bs) := by
  have HR0 := Lib.hid (show TakeR w w jp jm dp nm Y its bs 0 from ⟨⟨[], Y, h, rfl, fun _ h => .inl h⟩, Nat.zero_le _, Nat.zero_le _, by simp [fileL], Kept.refl _ w⟩)
  have HB := Lib.hid hb
  have HT := Lib.hid ht
  have HC := Lib.hid hC
  have HL := Lib.hid hb.1
  have HJ := Lib.hid (And.intro (h.lt _ h.yj) (h.lt _ h.ym))
  have HNE := Lib.hid (tab_ne ht h)
  clear h hb ht hC
  go_enter Tryd.func22, Tryd.ntmps22
  go_wp2_with fail
  go_loopw [9] (fun _ wr => ∃ j, TakeR w wr jp jm dp nm Y its bs j) (fun _ wr => bs.length - (intOf ((wr.cell? ⟨jp, 3, none⟩).getD undef)).toNat)
  case atStart => exact ⟨0, HR0.out⟩
  case round =>
    clear HR0
    obtain ⟨j, hr⟩ := hrel
    obtain ⟨L, Y', hj, hits, hgr⟩ := hr.at_
    obtain ⟨n, hn⟩ : ∃ n, n = (fileL (its.take j)).length := ⟨_, rfl⟩
    have hblr : b < wr.heap.size := Nat.lt_of_lt_of_le hbl hr.kept.size
    have hbr : BytesAt wr (some ⟨b, o, none⟩) m bs := HB.out.keep (fun _ b' o' e _ => by injection e with e; injection e with e _ _; rw [← e]; exact hr.kept.block b hbl (by rintro (h | h) <;> omega)) hr.kept.size
    have hnm := hr.len
    rw [← hn, HL.out] at hnm
    have htr : TabAt wr := HT.out.keptJ HNE.out hr.kept
    have CS := split_any (c := c - n) (hbr.from (k := n) (c := c) hnm hmc) (by omega) (by omega) htr
    obtain ⟨c0, c1, c2, c3, f1, f2, f3⟩ := blk4 hj.top
    rw [hits, ← hn] at c3
    have kI0 : (0 : Int) ≤ (n : Int) := by omega
    have kI1 : (n : Int) ≤ (m : Int) := by omega
    have kI2 : (m : Int) ≤ (c : Int) := by omega
    have hcs := clean_step HC.out hr.le hr.len
    rw [← hn] at hcs
    have HJJ := Lib.hid hj
    have HR := Lib.hid hr
    have HI := Lib.hid hits
    have HG := Lib.hid hgr
    have HN := Lib.hid hn
    clear hr hj hits hgr hn hbr htr
    rcases hcs with ⟨hs, hsc⟩ | ⟨x, hx, hg, hk, hs, hlen, htk, hsc⟩
    · rw [hs] at CS
      have CN := Lib.hid (show ¬ c = n → Calls Tryd.prog 41 #[.slice (some ⟨b, o + n, none⟩) (m - n) (c - n)] wr (SplitPost wr none) from fun h => by rw [if_neg h] at CS; exact CS)
      have CE := Lib.hid (show c = n → Calls Tryd.prog 41 #[.slice (some ⟨b, o, none⟩) (m - n) 0] wr (SplitPost wr none) from fun h => by rw [if_pos h, h, Nat.sub_self] at CS; exact CS)
      have HSC := Lib.hid (show scanL [] bs = its.take j by rw [HR.out.scan, ← HN.out]; exact hsc)
      clear hs hsc CS
      go_wp2_with fail
      all_goals (first | (with_reducible refine (CN.out (by assumption)).mono ?_) | (with_reducible refine (CE.out (by assumption)).mono ?_))
      all_goals
        rintro e w1 ⟨rfl, hb1⟩
        have hkp := HR.out.kept.trans (Y := fun i => i = jp ∨ i = jm) (kept_below hb1) (fun _ h => .inl h)
        have hj1 := HJJ.out.below hb1
        have HE := Lib.hid (show TakePost w jp jm dp nm Y bs (.returned (.tuple #[])) w1 from ⟨rfl, ⟨L, Y', hj1, by rw [HI.out, HSC.out], HG.out⟩, hkp⟩)
        clear hb1 hkp hj1 CN CE c0 c1 c2 c3 f1 f2 f3
        go_wp2
        go_end0
        exact HE.out
    · rw [hs] at CS
      have hql := payI_len x
      have CN := Lib.hid (show ¬ c = n → Calls Tryd.prog 41 #[.slice (some ⟨b, o + n, none⟩) (m - n) (c - n)] wr (SplitPost wr (some (payI x, (recI x).length))) from fun h => by rw [if_neg h] at CS; exact CS)
      have CE := Lib.hid (show c = n → Calls Tryd.prog 41 #[.slice (some ⟨b, o, none⟩) (m - n) 0] wr (SplitPost wr (some (payI x, (recI x).length))) from fun h => by rw [if_pos h, h, Nat.sub_self] at CS; exact CS)
      have HG1 := Lib.hid hg
      have HK := Lib.hid hk
      have HLN := Lib.hid hlen
      have HTK := Lib.hid htk
      have HSC := Lib.hid hsc
      have HX := Lib.hid hx
      have HQL := Lib.hid hql
      clear hs hsc CS hg hk hlen htk hx hql
      go_wp2_with fail
      all_goals (first | (with_reducible refine (CN.out (by assumption)).mono ?_) | (with_reducible refine (CE.out (by assumption)).mono ?_))
      all_goals (try (have h0 : n = c := (show c = n by assumption).symm; subst h0))
      all_goals
        rintro e w1 ⟨A1, d1, rfl, hby1, hb1, hd1, hd2, hd3⟩
        obtain ⟨ql, hqe⟩ : ∃ ql, ql = (payI x).length := ⟨_, rfl⟩
        obtain ⟨sz, hsz⟩ : ∃ sz, sz = (recI x).length := ⟨_, rfl⟩
        rw [← hqe] at hby1 hd1
        have hqp : 0 < ql := by have := HQL.out; omega
        obtain ⟨b1, o1, rfl, hb1l, _⟩ := hby1.2 hqp
        have hxk := HG1.out.1
        have hxd := HG1.out.2
        obtain ⟨kk, hkk⟩ : ∃ kk, kk = (numL x.1).length := ⟨_, rfl⟩
        have hnl := numL_len x.1
        rw [← hkk] at hnl
        have hge : getL (payI x) = (x.1, kk) := by rw [hkk]; exact getL_num (by omega) _
        have hqs : ql = kk + x.2.length := by rw [hqe, hkk]; unfold payI; rw [List.length_append]
        have CP := parts_yes hby1 hb1l hd1 hd2 hge (by omega) hxk (by omega)
        rw [dV_some] at CP
        obtain ⟨oo, hoo⟩ : ∃ oo, oo = (if d1 = kk then o1 else o1 + kk) := ⟨_, rfl⟩
        rw [← hoo, show ql - kk = x.2.length by omega] at CP
        have hdat : BytesAt w1 (some ⟨b1, oo, none⟩) x.2.length x.2 := by
          have h := hby1.from (k := kk) (c := d1) (by omega) hd1
          rw [show (payI x).drop kk = x.2 by rw [hkk]; unfold payI; rw [List.drop_left' rfl], show ql - kk = x.2.length by omega] at h
          rw [hoo]
          split at h
          · rename_i h0; rw [if_pos h0]; exact h
          · rename_i h0; rw [if_neg h0]; exact h
        have hlow := hd3 b1 o1 rfl
        have hHas : hasE L (x.1 : Nat) = false := by rw [hasE_hasK, HI.out]; exact HK.out
        have hj1 := HJJ.out.below hb1
        have CPP := Lib.hid CP
        have HDAT := Lib.hid hdat
        have HJ1 := Lib.hid hj1
        have HB1 := Lib.hid hb1
        have HOM := Lib.hid (show ql = kk + x.2.length ∧ 0 < kk ∧ ql ≤ d1 from ⟨hqs, by omega, hd1⟩)
        have HHS := Lib.hid hHas
        obtain ⟨dl, hdl⟩ : ∃ dl, dl = x.2.length := ⟨_, rfl⟩
        obtain ⟨ky, hky⟩ : ∃ ky, ky = x.1 := ⟨_, rfl⟩
        obtain ⟨dc, hdc⟩ : ∃ dc, dc = d1 - kk := ⟨_, rfl⟩
        rw [← hdl, ← hky, ← hdc] at CPP
        rw [← hqe, ← hsz]
        have HKY := Lib.hid hky
        have HDL := Lib.hid hdl
        have HDC := Lib.hid hdc
        have HSZ := Lib.hid hsz
        clear CP hdat hj1 hb1 hqs hd1 hd2 hd3 hoo hge hkk hnl hHas hby1 hqe hdl hky hdc hsz hqp CN CE c0 c1 c2 c3 f1 f2 f3
        go_wp2_with fail
        refine CPP.out.mono ?_
        rintro e w2 ⟨rfl, hb2⟩
        have hj2 := HJ1.out.below hb2
        have CH := Lib.hid (has_any hj2 (wf_key hxk))
        rw [HHS.out, ← HKY.out] at CH
        obtain ⟨w3, r1, r2, r3, r4⟩ := hj2.put (e := ⟨x.1, x.2, b1, oo, dc⟩) HHS.out hxk (by have := congrArg List.length HI.out; rw [itms_len, List.length_take] at this; unfold maxLen; omega) (HDAT.out.below hb2) (by have := HOM.out; have := HDC.out; show x.2.length ≤ dc; omega) (by have := hj2.lt _ hj2.yj; have := HJJ.out.lt _ HJJ.out.yj; show b1 ≠ jp; omega) (by have := HJJ.out.lt _ HJJ.out.ym; show b1 ≠ jm; omega) (Nat.lt_of_lt_of_le hb1l hb2.size)
        obtain ⟨g0, g1, g2, g3, gf1, gf2, gf3⟩ := blk4 hj2.top
        obtain ⟨e0, e1, e2, e3, ef1, ef2, ef3⟩ := blk4 r3
        rw [HI.out, ← HN.out] at g3 e3
        have hln : (fileL (itms (L ++ [⟨x.1, x.2, b1, oo, dc⟩]))).length = n + sz := by
          rw [itms_snoc, fileL_snoc, List.length_append, HI.out, ← HN.out, HSZ.out]; rfl
        have hle := HLN.out
        rw [← HSZ.out] at hle
        have hszp : 9 ≤ sz := by rw [HSZ.out]; have := recI_len x; omega
        have w0 : IntKind.i64.wrap ((n : Int) + (sz : Int)) = ((n + sz : Nat) : Int) := by
          have := HL.out
          rw [IntKind.wrap_i64]; omega
        have ecast : ((n + sz : Nat) : Int) = (n : Int) + (sz : Int) := by omega
        rw [ecast] at w0
        have R1 : (Instr.mapUpdate 52 (.map (some jm)) (.int .i64 (ky : Nat)) (.slice (some ⟨b1, oo, none⟩) dl dc)).run Tryd.prog w2 = .ok () w3 := by rw [HKY.out, HDL.out]; exact r1
        rw [hln, ecast] at r4
        have hTR := Lib.hid (show TakeR w (w3.setCell ⟨jp, 3, none⟩ (.int .i64 ((n : Int) + (sz : Int)))) jp jm dp nm Y its bs (j + 1) from by
          have htk := HTK.out
          have e4 : (fileL (its.take (j + 1))).length = n + sz := by rw [htk, fileL_snoc, List.length_append, ← HN.out, HSZ.out]
          refine ⟨⟨_, _, r4, ?_, fun i hi => ?_⟩, ?_, ?_, ?_, ?_⟩
          · rw [itms_snoc, HI.out, htk]; rfl
          · rcases hi with hi | hi
            · exact HG.out i hi
            · have : wr.heap.size ≤ b1 := hlow
              have := HR.out.kept.size
              have : i = b1 := hi
              omega
          · have := (List.getElem?_eq_some_iff.1 HX.out).1; omega
          · rw [e4]; exact hle
          · rw [HR.out.scan, ← HN.out]; exact HSC.out
          · exact (((HR.out.kept.trans (kept_below HB1.out) (fun _ h => .inl h)).trans (kept_below hb2) (fun _ h => .inl h)).grown r2 (fun j hj => by injection hj with hj; exact .inl (.inr hj.symm))).set_ (p := ⟨jp, 3, none⟩) (.inl (.inl rfl)) _)
        have hc3 := hTR.out.at_
        have HC3 := Lib.hid (show (w3.setCell ⟨jp, 3, none⟩ (.int .i64 ((n : Int) + (sz : Int)))).cell? ⟨jp, 3, none⟩ = some (.int .i64 ((n : Int) + (sz : Int))) from Blk.cell (Blk.set_ r3 3 (.int .i64 ((n : Int) + (sz : Int)))) 3)
        have HWR := Lib.hid (show wr.cell? ⟨jp, 3, none⟩ = some (.int .i64 (n : Nat)) by have := Blk.cell HJJ.out.top 3; rw [HI.out, ← HN.out] at this; exact this)
        have HLE := Lib.hid hle
        have HSP := Lib.hid hszp
        clear hc3 hle hszp hln r1 r2 r3 r4 hj2 hb2 CPP
        go_wp2_with fail
        refine CH.out.mono ?_
        rintro e w2' ⟨rfl, rfl⟩
        go_wp2
        go_roundw
        case rel => exact ⟨j + 1, hTR.out⟩
        case measure =>
          rw [HC3.out, HWR.out]
          have h1 := HLE.out
          have h2 := HSP.out
          simp [intOf]
          omega
end
end Go.Proofs.YtdhiofbimebbkaaDoor
