/- The reference's Simple. -/
import Derived.Test.YtfgblmdmhgllgaaCt
namespace Go.Proofs.Ytfgblmdmhgllgaa
open Go.RowKit Go.Maps

section
variable {B q cap : Nat} {kk : Int} {n v : ByteArray} {A : Option Addr} {acc : List CT} {wr wS : World}
/-- SAt.app, and what of the row's block is known behind it. -/
theorem SAt.app2 {m c2 d2 : Nat} {us acc2 : List CT} {A2 : Option Addr} (ty : TypeId) (he : acc ++ us = acc2) (h : SAt B q kk n v A cap acc wS) (hu : KidsAt wS (fun j => B ≤ j ∧ j < wS.heap.size ∧ (Value.slice A acc.length cap).ownBlock ≠ some j) d2 A2 m us) (hm : 0 < m) (hl : acc.length + m ≤ 1000000000) :
    ∃ A' c' w', (Builtin.append_ #[74, 74] ty #[.slice A acc.length cap, .slice A2 m c2]).run Try.prog wS = .ok (.slice A' acc2.length c') w' ∧ Blk w' q 76 #[.int .i64 kk, .string n, .string v, .slice A acc.length cap] ∧
      SAt B q kk n v A' c' acc2 (w'.setCell ⟨q, 3, none⟩ (.slice A' acc2.length c')) ∧ (∀ B', B' ≤ B → Below B' wS w') ∧ wS.grownBy w' (Value.slice A acc.length cap).ownBlock ∧
      ((Value.slice A' acc2.length c').ownBlock = (Value.slice A acc.length cap).ownBlock ∨ (Value.slice A' acc2.length c').ownBlock = some wS.heap.size) := by
  subst he
  obtain ⟨d, cells, ho, hk⟩ := h.row
  obtain ⟨A', c', w', cells', e1, e2, e3, e4, e5⟩ := append_conds ty (c2 := c2) ho (hk.deeper (Nat.le_max_left d d2)) (hu.deeper (Nat.le_max_right d d2)) hm hl h.low.2
  have hap : some q ≠ (Value.slice A acc.length cap).ownBlock := fun e => by have := (ho.lt q e.symm).1; have := h.low.1; omega
  have ht := h.top.grown e4 hap
  have hlow := h.low
  refine ⟨A', c', w', e1, ht, ⟨ht.set_ 3 _, ⟨hlow.1, by simpa [World.setCell] using Nat.le_trans hlow.2 e4.size⟩, max d d2, cells', ownsRow_setCell_below e2 (by exact hlow.1) _, ?_⟩, fun B' hB' => ?_, e4, e5⟩
  · refine (e3.keep (w' := w'.setCell ⟨q, 3, none⟩ (.slice A' (acc ++ us).length c')) fun j hj => ?_).mono fun j hj => ⟨hj.1, ?_, ?_⟩
    · rw [Below.heap_setCell _ _ _ _ (by have := hj.1; show j ≠ q; omega)]
      exact e4.block j hj.2.1 fun e => hj.2.2 e.symm
    · simpa [World.setCell] using Nat.lt_of_lt_of_le hj.2.1 e4.size
    · rcases e5 with e | e
      · rw [e]; exact hj.2.2
      · rw [e]; intro he; injection he with he; have := hj.2.1; omega
  · exact (Below.refl _ _).grown e4 (by omega) fun j hj => by have := (ho.lt j hj).1; omega
end
set_option maxHeartbeats 8000000 in
set_option maxRecDepth 100000 in
theorem rSimple_any : ∀ (f D : Nat) (t : CT) (no : Bool) (v0 v1 v2 v3 : Value) (w : World), CondAt w (· < w.heap.size) D t [v0, v1, v2, v3] → rightT f t = true → (namesT t).length ≤ 1000000000 →
    Calls Try.prog 50 #[.agg #[v0, v1, v2, v3], .bool no] w (SPost w (simpT no t)) := by
  intro f
  induction f with
  | zero => intro D t no v0 v1 v2 v3 w _ h; cases h
  | succ f ih =>
    intro D t no v0 v1 v2 v3 w ht hr hnl
    obtain ⟨d, k, n, v, kids, A, m, c, rfl, rfl, hcs, hn, hv, hm, hmc, hk⟩ := ht.form
    simp only [List.cons.injEq, and_true] at hcs
    obtain ⟨rfl, rfl, rfl, rfl⟩ := hcs
    obtain ⟨ha, hrk⟩ := right_kids hr
    rw [hk.1] at ha
    have IH := Lib.hid ih
    clear ih ht hr
    unfold maxLen at hm
    by_cases h3 : k = 3
    · subst h3
      have hm1 : m = 1 := by rcases alone_cases ha with h | h | h <;> omega
      subst hm1
      obtain ⟨b, o, t, k', n', v', B, q, c', rfl, hX, htj, e0, e1, e2, e3, ht⟩ := hk.kid (i := 0) (by omega)
      rw [Nat.zero_mul, Nat.add_zero] at e0 e1 e2 e3
      have hkids : kids = [t] := by
        have := hk.1
        match kids, this, htj with
        | [x], _, h => simp at h; rw [h]
      have hN : (namesT t).length ≤ 1000000000 := by rw [hkids, namesT, List.length_append, namesK] at hnl; simp [namesK] at hnl; omega
      have HR := Lib.hid (show simpT no (.mk 3 n v kids) = simpT (!no) t by rw [simpT, if_pos rfl, hkids, simpF])
      have hbw := ((Below.refl _ w).alloc (Nat.le_refl _) (.cells #[.int .i64 3, .string n, .string v, .slice (some ⟨b, o, none⟩) 1 c] 76)).alloc (by simp) (.cells #[.int .i64 0, .string ⟨#[]⟩, .string ⟨#[]⟩, .slice none 0 0] 76)
      have hz0 : Blk ((w.alloc (.cells #[.int .i64 3, .string n, .string v, .slice (some ⟨b, o, none⟩) 1 c] 76)).alloc (.cells #[.int .i64 0, .string ⟨#[]⟩, .string ⟨#[]⟩, .slice none 0 0] 76)) (w.heap.size + 1) 76 #[.int .i64 0, .string ⟨#[]⟩, .string ⟨#[]⟩, .slice none 0 0] := by simpa using Blk.new (w.alloc (.cells #[.int .i64 3, .string n, .string v, .slice (some ⟨b, o, none⟩) 1 c] 76)) 76 _
      have HC := Lib.hid (IH.out d t (!no) _ _ _ _ _ (ht.below hbw) (hrk t (List.mem_of_getElem? htj)) hN)
      clear ht htj hk hrk hkids hnl ha
      go_enter Try.func50, Try.ntmps50
      go_wp2_with fail
      refine HC.out.mono ?_
      rintro e w1 ⟨rk, rn, rv, rA, rm, rc, rD, rfl, hc, hb1⟩
      obtain ⟨z0, z1, z2, z3, y0, y1, y2, y3⟩ := blkz (hz0.below hb1 (by simp))
      have hz1 := hb1.size
      have HC1 := Lib.hid hc
      clear hz0 hc
      go_wp2
      refine bodyPost_ret (v := .agg #[.int .i64 rk, .string rn, .string rv, .slice rA rm rc]) (by simp [results, Try.results50, go_sem, *]) rfl ?_
      rw [HR.out]
      refine ⟨rk, rn, rv, rA, rm, rc, rD, rfl, ?_, set4_below (hbw.trans (hb1.mono (by simp; omega))) (by omega)⟩
      refine (HC1.out.keep fun j hj => set4_far _ _ _ _ _ _ j ?_).mono fun j hj => ⟨?_, ?_⟩
      · have := hj.1; simp at this; omega
      · have := hj.1; simp at this; omega
      · rw [set4_size]; exact hj.2
    · -- of other kinds
      have mixed : Try.prog.follows .mixedOrders = true := by kernel_rfl
      have hR : simpT no (.mk k n v kids) = .mk (if no then opp k else k) n v (simpK no (if no then opp k else k) kids) := by rw [simpT, if_neg h3]
      have HR := Lib.hid hR
      have hkk := fun hc : k = 4 ∨ k = 5 => opp_and no hc
      have hnl2 : (namesK kids).length ≤ 1000000000 := by rw [namesT, List.length_append] at hnl; omega
      clear hR hnl
      cases no
      · have hwk : (if (false : Bool) then opp k else k) = k := rfl
        rw [hwk] at HR hkk
        have k3 : (k == 3) = false := by simpa using h3
        have hbw := (((Below.refl _ w).alloc (Nat.le_refl _) (.cells #[.int .i64 k, .string n, .string v, .slice A m c] 76)).alloc (by simp) (.cells #[.int .i64 0, .string ⟨#[]⟩, .string ⟨#[]⟩, .slice none 0 0] 76)).alloc (by simp; omega) (.cells #[.int .i64 k, .string n, .string v, .slice none 0 0] 76)
        have hz0 : Blk (((w.alloc (.cells #[.int .i64 k, .string n, .string v, .slice A m c] 76)).alloc (.cells #[.int .i64 0, .string ⟨#[]⟩, .string ⟨#[]⟩, .slice none 0 0] 76)).alloc (.cells #[.int .i64 k, .string n, .string v, .slice none 0 0] 76)) (w.heap.size + 1) 76 #[.int .i64 0, .string ⟨#[]⟩, .string ⟨#[]⟩, .slice none 0 0] := by simpa using (Blk.new (w.alloc (.cells #[.int .i64 k, .string n, .string v, .slice A m c] 76)) 76 #[.int .i64 0, .string ⟨#[]⟩, .string ⟨#[]⟩, .slice none 0 0]).alloc (.cells #[.int .i64 k, .string n, .string v, .slice none 0 0] 76)
        have hc0 : Blk (((w.alloc (.cells #[.int .i64 k, .string n, .string v, .slice A m c] 76)).alloc (.cells #[.int .i64 0, .string ⟨#[]⟩, .string ⟨#[]⟩, .slice none 0 0] 76)).alloc (.cells #[.int .i64 k, .string n, .string v, .slice none 0 0] 76)) w.heap.size 76 #[.int .i64 k, .string n, .string v, .slice A m c] := ((Blk.new w _ _).alloc _).alloc _
        have hs0 : SAt (w.heap.size + 3) (w.heap.size + 1 + 1) k n v none 0 [] (((w.alloc (.cells #[.int .i64 k, .string n, .string v, .slice A m c] 76)).alloc (.cells #[.int .i64 0, .string ⟨#[]⟩, .string ⟨#[]⟩, .slice none 0 0] 76)).alloc (.cells #[.int .i64 k, .string n, .string v, .slice none 0 0] 76)) :=
          ⟨by simpa using Blk.new ((w.alloc (.cells #[.int .i64 k, .string n, .string v, .slice A m c] 76)).alloc (.cells #[.int .i64 0, .string ⟨#[]⟩, .string ⟨#[]⟩, .slice none 0 0] 76)) 76 #[.int .i64 k, .string n, .string v, .slice none 0 0], ⟨by omega, by simp⟩, 0, [], World.ownsRow_nil _ _ _ _, RowC.nil _ _ _⟩
        go_enter Try.func50, Try.ntmps50
        go_wp2_with fail
        go_loopw [7] (fun i wr => ∃ (j : Nat) (Ao : Option Addr) (cap : Nat) (acc : List CT), j ≤ m ∧ i = .int .i64 j ∧ acc = simpK false k (kids.take j) ∧ SAt (w.heap.size + 3) (w.heap.size + 1 + 1) k n v Ao cap acc wr ∧ Blk wr (w.heap.size + 1) 76 #[.int .i64 0, .string ⟨#[]⟩, .string ⟨#[]⟩, .slice none 0 0] ∧ Blk wr w.heap.size 76 #[.int .i64 k, .string n, .string v, .slice A m c] ∧ Below w.heap.size w wr) (fun i _ => m - (intOf i).toNat)
        case atStart => exact ⟨0, none, 0, [], Nat.zero_le _, rfl, rfl, hs0, hz0, hc0, hbw⟩
        case round =>
          clear hs0 hz0 hc0 hbw
          obtain ⟨j, Ao, cap, acc, hj, rfl, hacc, hS, hz, hcb, hb⟩ := hrel
          have hlow := hS.low
          obtain ⟨s0, s1, s2, s3⟩ := blkc hcb
          by_cases hlt : j < m
          · have hlt' : (j : Int) < (m : Int) := by omega
            have hj0 : (0 : Int) ≤ (j : Int) := by omega
            obtain ⟨h45, _⟩ : ((k : Int) = 4 ∨ (k : Int) = 5) ∧ ((k : Int) = 4 ∨ (k : Int) = 5) := by rcases alone_cases ha with h | h | h <;> first | omega | exact ⟨hkk h.1, h.1⟩
            obtain ⟨b, o, t, k', n', v', Bq, q, c', rfl, hX, htj, e0, e1, e2, e3, ht⟩ := hk.kid hlt
            have hrt := hrk t (List.mem_of_getElem? htj)
            have hsn := simpK_snoc (no := false) (k := k) htj
            have hnk := simpK_names h45 false (kids.take (j + 1)) fun x hx => hrk x (List.mem_of_mem_take hx)
            have hnk2 := namesK_take kids (j + 1)
            have hNt : (namesT t).length ≤ 1000000000 := by
              have h1 := namesK_take kids (j + 1)
              rw [namesK_eq, List.take_add_one, htj] at h1
              simp only [List.flatMap_append, Option.toList_some, List.flatMap_cons, List.flatMap_nil, List.append_nil, List.length_append] at h1
              omega
            rw [hsn, ← hacc, List.length_append] at hnk
            replace e0 := (hb.cell (p := ⟨b, o + j * 4, none⟩) hX).trans e0
            replace e1 := (hb.cell (p := ⟨b, o + j * 4 + 1, none⟩) hX).trans e1
            replace e2 := (hb.cell (p := ⟨b, o + j * 4 + 2, none⟩) hX).trans e2
            replace e3 := (hb.cell (p := ⟨b, o + j * 4 + 3, none⟩) hX).trans e3
            have HC := Lib.hid (IH.out d t false _ _ _ _ wr (ht.below hb) hrt hNt)
            have HS := Lib.hid hS
            have HZ := Lib.hid hz
            have HCB0 := Lib.hid hcb
            have HSN := Lib.hid hsn
            have HACC := Lib.hid hacc
            have HRT := Lib.hid (simp_right f false t hrt)
            clear ht htj hk hrk hsn hS hz hacc hrt hcb
            go_wp2_with fail
            refine HC.out.mono ?_
            rintro e w3 ⟨rk, rn, rv, rA, rm, rc, rD, rfl, hc, hb1⟩
            have hw3 := hb1.size
            have hb4 : Below wr.heap.size wr (w3.alloc (.cells #[.int .i64 rk, .string rn, .string rv, .slice rA rm rc] 76)) := hb1.alloc hb1.size _
            have hS4 := HS.out.up hb4
            have hown4 : ∀ j, (Value.slice Ao acc.length cap).ownBlock = some j → j < wr.heap.size := fun j hj => by
              obtain ⟨d0, cells0, ho0, _⟩ := HS.out.row
              exact (ho0.lt j hj).2
            have hc4 : CondAt (w3.alloc (.cells #[.int .i64 rk, .string rn, .string rv, .slice rA rm rc] 76)) (fun j => wr.heap.size ≤ j ∧ j < w3.heap.size) rD (simpT false t) [.int .i64 rk, .string rn, .string rv, .slice rA rm rc] := hc.keep fun j hj => Below.heap_alloc _ _ _ hj.2
            have hz4 := HZ.out.below hb4 HZ.out.lt
            have hc04 := HCB0.out.below hb4 HCB0.out.lt
            have hp4 := Blk.new w3 76 #[.int .i64 rk, .string rn, .string rv, .slice rA rm rc]
            have hb44 := hb.trans (hb4.mono hb.size)
            obtain ⟨p0, p1, p2, p3, y0, y1, y2, y3⟩ := blkz hS4.top
            clear s0 s1 s2 s3
            cases hkr : (rk == k)
            · -- one more
              have hfl : flat k (simpT false t) = [simpT false t] := by
                obtain ⟨_, k1, _, _, _, _, _, _, _, hx, hcs, _⟩ := hc.form
                simp only [List.cons.injEq, Value.int.injEq, true_and] at hcs
                unfold flat
                rw [if_neg]
                rw [hx]
                show k1 ≠ k
                rw [← hcs.1]
                simpa using hkr
              rw [hfl] at HSN hnk
              have hb5 := (Below.refl _ (w3.alloc (.cells #[.int .i64 rk, .string rn, .string rv, .slice rA rm rc] 76))).alloc (Nat.le_refl _) (.cells #[.int .i64 rk, .string rn, .string rv, .slice rA rm rc] 76)
              have hS5 := hS4.up hb5
              have hu : KidsAt ((w3.alloc (.cells #[.int .i64 rk, .string rn, .string rv, .slice rA rm rc] 76)).alloc (.cells #[.int .i64 rk, .string rn, .string rv, .slice rA rm rc] 76)) (fun j => w.heap.size + 3 ≤ j ∧ j < ((w3.alloc (.cells #[.int .i64 rk, .string rn, .string rv, .slice rA rm rc] 76)).alloc (.cells #[.int .i64 rk, .string rn, .string rv, .slice rA rm rc] 76)).heap.size ∧ (Value.slice Ao acc.length cap).ownBlock ≠ some j) rD (some ⟨w3.heap.size + 1, 0, none⟩) 1 [simpT false t] := by
                refine one_kid (v0 := .int .i64 rk) (v1 := .string rn) (v2 := .string rv) (v3 := .slice rA rm rc) ?_ ⟨by omega, by simp, fun e => by have := hown4 _ e; omega⟩ ?_
                · simpa using Blk.new (w3.alloc (.cells #[.int .i64 rk, .string rn, .string rv, .slice rA rm rc] 76)) 76 #[.int .i64 rk, .string rn, .string rv, .slice rA rm rc]
                · exact (hc4.keep fun j hj => Below.heap_alloc _ _ _ (by have := hj.2; simp; omega)).mono fun j hj => ⟨by have := hj.1; omega, by have := hj.2; simp; omega, fun e => by have := hown4 _ e; have := hj.1; omega⟩
              obtain ⟨acc2, hacc2⟩ : ∃ l, acc ++ [simpT false t] = l := ⟨_, rfl⟩
              obtain ⟨A', c1, w', hrun, ht6, hS6, hbe⟩ := SAt.app 74 (c2 := 1) hacc2 hS5 hu (by omega) (by simp at hnk; omega)
              have HRUN := Lib.hid hrun
              have HA2 := Lib.hid hacc2
              have HS6 := Lib.hid hS6
              have hbl : Below w.heap.size w w' := hb44.trans (((Below.refl _ _).alloc (by have := hb44.size; omega) _).trans (hbe w.heap.size (by omega)))
              have hz6 : Blk w' (w.heap.size + 1) 76 _ := (hz4.alloc (.cells #[.int .i64 rk, .string rn, .string rv, .slice rA rm rc] 76)).below (hbe (w.heap.size + 2) (by omega)) (by omega)
              have hc6 : Blk w' w.heap.size 76 _ := (hc04.alloc (.cells #[.int .i64 rk, .string rn, .string rv, .slice rA rm rc] 76)).below (hbe (w.heap.size + 2) (by omega)) (by omega)
              obtain ⟨r0, r1, r2, r3, x0, x1, x2, x3⟩ := blkz ht6
              have HZ6 := Lib.hid hz6
              have HC6 := Lib.hid hc6
              clear hacc2 hc hc4 hu hS5 hS4 hrun hS6 ht6 hz6 hc6 hfl hb1 hbe hp4 hz4 hc04
              go_wp2_with (at_builtin; refine wpList_append_run rfl (.tmp 75) (.tmp 77) 74 rfl _ _ _ rfl rfl HRUN.out ?_)
              go_roundw
              case rel => exact ⟨j + 1, _, _, acc2, by omega, by go_num, by rw [HSN.out, ← HACC.out, HA2.out], HS6.out, HZ6.out.far (by simp) _, HC6.out.far (by simp; try omega) _, hbl.setCell (by simp; omega) _⟩
              case measure => simp [intOf]; omega
            · -- its kids
              obtain ⟨dd, k1, n1, v1, rkids, A1, m1, c1, hD1, hx, hcs, _, _, _, _, hkk1⟩ := hc4.form
              simp only [List.cons.injEq, Value.int.injEq, Value.slice.injEq, true_and, and_true] at hcs
              obtain ⟨hcs1, -, -, hcs2, hcs3, -⟩ := hcs
              have hrk : rk = k := by simpa using hkr
              have hfl : flat k (simpT false t) = rkids := by
                unfold flat
                rw [if_pos]
                · rw [hx]; rfl
                · rw [hx]; show k1 = k; rw [← hcs1, hrk]
              rw [hfl] at HSN hnk
              rw [← hcs2, ← hcs3] at hkk1
              have hrl := hkk1.1
              clear hc hc4 hx hcs1 hcs2 hcs3 hrk hD1 hb1 hfl p0 p1 p2 p3 y0 y1 y2 y3
              have hrm : rm ≤ 1000000000 := by omega
              obtain ⟨wo, hwo⟩ : ∃ wo, wo = wr := ⟨_, rfl⟩
              subst hwo
              go_wp2_with fail
              go_loopw [9] (fun ii wr => ∃ (i : Nat) (Ai : Option Addr) (ci : Nat) (ac : List CT), i ≤ rm ∧ ii = .int .i64 i ∧ acc ++ rkids.take i = ac ∧ SAt (w.heap.size + 3) (w.heap.size + 1 + 1) k n v Ai ci ac wr ∧ Blk wr w3.heap.size 76 #[.int .i64 rk, .string rn, .string rv, .slice rA rm rc] ∧ KidsAt wr (fun j => wo.heap.size ≤ j ∧ j < w3.heap.size) dd rA rm rkids ∧ Blk wr (w.heap.size + 1) 76 #[.int .i64 0, .string ⟨#[]⟩, .string ⟨#[]⟩, .slice none 0 0] ∧ Blk wr w.heap.size 76 #[.int .i64 k, .string n, .string v, .slice (some ⟨b, o, none⟩) m c] ∧ Below w.heap.size w wr ∧ (∀ j, (Value.slice Ai ac.length ci).ownBlock = some j → j < wo.heap.size ∨ w3.heap.size < j)) (fun ii _ => rm - (intOf ii).toNat)
              case atStart => exact ⟨0, Ao, cap, acc, Nat.zero_le _, rfl, by simp, hS4, hp4, hkk1, hz4, hc04, hb44, fun j hj => .inl (hown4 j hj)⟩
              case round =>
                clear hS4 hp4 hkk1 hz4 hc04 hb44 hown4
                obtain ⟨i, Ai, ci, ac, hi, rfl, hac, hSi, hpi, hki, hzi, hci, hbi, hrow⟩ := hrel
                obtain ⟨u0, u1, u2, u3⟩ := blkc hpi
                obtain ⟨p0, p1, p2, p3, y0, y1, y2, y3⟩ := blkz hSi.top
                by_cases hlti : i < rm
                · have hlti' : (i : Int) < (rm : Int) := by omega
                  have hi0 : (0 : Int) ≤ (i : Int) := by omega
                  obtain ⟨g, og, t', kx, nx, vx, Bx, qx, cx, rfl, hXg, htg, f0, f1, f2, f3, htc⟩ := hki.kid hlti
                  have hgl : g < wr.heap.size := by have := hpi.lt; have := hXg.2; omega
                  have hlowi := hSi.low
                  have hql : w.heap.size + 1 + 1 < wr.heap.size := by omega
                  have hpl := hpi.lt
                  have hbA := (Below.refl wr.drew.heap.size wr.drew).alloc (Nat.le_refl _) (.cells #[.int .i64 kx, .string nx, .string vx, .slice Bx qx cx] 76)
                  have hSA : SAt (w.heap.size + 3) (w.heap.size + 1 + 1) k n v Ai ci ac (wr.drew.alloc (.cells #[.int .i64 kx, .string nx, .string vx, .slice Bx qx cx] 76)) := SAt.up (wr := wr) hSi ⟨hbA.os, hbA.tape, hbA.output, hbA.size, hbA.block⟩
                  have hu : KidsAt (wr.drew.alloc (.cells #[.int .i64 kx, .string nx, .string vx, .slice Bx qx cx] 76)) (fun j => w.heap.size + 3 ≤ j ∧ j < (wr.drew.alloc (.cells #[.int .i64 kx, .string nx, .string vx, .slice Bx qx cx] 76)).heap.size ∧ (Value.slice Ai ac.length ci).ownBlock ≠ some j) dd (some ⟨wr.heap.size, 0, none⟩) 1 [t'] := by
                    refine one_kid (v0 := .int .i64 kx) (v1 := .string nx) (v2 := .string vx) (v3 := .slice Bx qx cx) (Blk.new wr.drew 76 #[.int .i64 kx, .string nx, .string vx, .slice Bx qx cx]) ⟨by omega, by simp, fun e => ?_⟩ ?_
                    · obtain ⟨d0, cells0, ho0, _⟩ := hSi.row
                      have := (ho0.lt _ e).2
                      omega
                    · exact (CondAt.keep (w := wr) (w' := wr.drew.alloc (.cells #[.int .i64 kx, .string nx, .string vx, .slice Bx qx cx] 76)) (fun j hj => Below.heap_alloc wr.drew _ j (by have := hj.2; show j < wr.heap.size; omega)) htc).mono fun j hj => ⟨by have := hj.1; omega, by have := hj.2; simp; omega, fun e => by have := hrow j e; have := hj.1; have := hj.2; omega⟩
                  obtain ⟨acc2, hacc2⟩ : ∃ l, ac ++ [t'] = l := ⟨_, rfl⟩
                  have hacl : ac.length + 1 ≤ 1000000000 := by
                    rw [← hac, List.length_append]
                    have := List.length_take_le i rkids
                    omega
                  obtain ⟨A', c1, w', hrun, ht6, hS6, hbe, hgr, hat⟩ := SAt.app2 74 (c2 := 1) hacc2 hSA hu (by omega) hacl
                  have HRUN := Lib.hid hrun
                  have HA2 := Lib.hid (show acc ++ rkids.take (i + 1) = acc2 by rw [← hacc2, ← hac, List.take_add_one, htg]; simp)
                  have HS6 := Lib.hid hS6
                  have keepJ : ∀ j, w.heap.size + 3 ≤ j → j < wr.heap.size → (Value.slice Ai ac.length ci).ownBlock ≠ some j → w'.heap[j]? = wr.heap[j]? := fun j h1 h2 h3 => (hgr.block j (by simp; omega) (fun e => h3 e.symm)).trans (Below.heap_alloc wr.drew _ j h2)
                  have hbl : Below w.heap.size w w' := hbi.trans ((show Below w.heap.size wr (wr.drew.alloc (.cells #[.int .i64 kx, .string nx, .string vx, .slice Bx qx cx] 76)) from ⟨hbA.os, hbA.tape, hbA.output, hbA.size, fun j hj => hbA.block j (by have := hbi.size; show j < wr.heap.size; omega)⟩).trans (hbe w.heap.size (by omega)))
                  have hz6 : Blk w' (w.heap.size + 1) 76 _ := (hzi.drew.alloc (.cells #[.int .i64 kx, .string nx, .string vx, .slice Bx qx cx] 76)).below (hbe (w.heap.size + 2) (by omega)) (by omega)
                  have hc6 : Blk w' w.heap.size 76 _ := (hci.drew.alloc (.cells #[.int .i64 kx, .string nx, .string vx, .slice Bx qx cx] 76)).below (hbe (w.heap.size + 2) (by omega)) (by omega)
                  have hp6 : Blk w' w3.heap.size 76 #[.int .i64 rk, .string rn, .string rv, .slice (some ⟨g, og, none⟩) rm rc] := (keepJ w3.heap.size (by omega) hpl (fun e => by have := hrow _ e; omega)).trans hpi
                  have hk6 : KidsAt w' (fun j => wo.heap.size ≤ j ∧ j < w3.heap.size) dd (some ⟨g, og, none⟩) rm rkids := hki.keep fun j hj => keepJ j (by have := hj.1; omega) (by have := hj.2; omega) (fun e => by have := hrow _ e; have := hj.1; have := hj.2; omega)
                  have hg6 : w'.heap[g]? = wr.heap[g]? := keepJ g (by have := hXg.1; omega) hgl (fun e => by have := hrow _ e; have := hXg.1; have := hXg.2; omega)
                  obtain ⟨r0, r1, r2, r3, x0, x1, x2, x3⟩ := blkz ht6
                  have hqne : w3.heap.size ≠ w.heap.size + 1 + 1 := by omega
                  have hgne : g ≠ w.heap.size + 1 + 1 := by have := hXg.1; omega
                  have HPB := Lib.hid (hp6.far (p := ⟨w.heap.size + 1 + 1, 3, none⟩) hqne (.slice A' acc2.length c1))
                  have HKB := Lib.hid (show KidsAt (w'.setCell ⟨w.heap.size + 1 + 1, 3, none⟩ (.slice A' acc2.length c1)) (fun j => wo.heap.size ≤ j ∧ j < w3.heap.size) dd (some ⟨g, og, none⟩) rm rkids from hk6.keep fun j hj => Below.heap_setCell _ _ _ _ (by have := hj.1; show j ≠ w.heap.size + 1 + 1; omega))
                  have HZB := Lib.hid (hz6.far (p := ⟨w.heap.size + 1 + 1, 3, none⟩) (by simp) (.slice A' acc2.length c1))
                  have HCB := Lib.hid (hc6.far (p := ⟨w.heap.size + 1 + 1, 3, none⟩) (by simp; try omega) (.slice A' acc2.length c1))
                  have HBL := Lib.hid (hbl.setCell (p := ⟨w.heap.size + 1 + 1, 3, none⟩) (by simp; omega) (.slice A' acc2.length c1))
                  have HRW := Lib.hid (show ∀ j, (Value.slice A' acc2.length c1).ownBlock = some j → j < wo.heap.size ∨ w3.heap.size < j from fun j hj => by
                    rcases hat with e | e
                    · rw [e] at hj; exact hrow j hj
                    · rw [e] at hj
                      injection hj with hj
                      simp at hj
                      omega)
                  have HSA := Lib.hid (show (fun W => W.cell? ⟨w3.heap.size, 3, none⟩ = some (.slice (some ⟨g, og, none⟩) rm rc) ∧ W.cell? ⟨g, og + i * 4, none⟩ = some (.int .i64 kx) ∧ W.cell? ⟨g, og + i * 4 + 1, none⟩ = some (.string nx) ∧ W.cell? ⟨g, og + i * 4 + 2, none⟩ = some (.string vx) ∧ W.cell? ⟨g, og + i * 4 + 3, none⟩ = some (.slice Bx qx cx)) (wr.drew.alloc (.cells #[.int .i64 kx, .string nx, .string vx, .slice Bx qx cx] 76)) from ⟨(World.cell?_of_block (a := ⟨w3.heap.size, 3, none⟩) (Below.heap_alloc wr.drew _ w3.heap.size hpl)).trans u3, (World.cell?_of_block (a := ⟨g, og + i * 4, none⟩) (Below.heap_alloc wr.drew _ g hgl)).trans f0, (World.cell?_of_block (a := ⟨g, og + i * 4 + 1, none⟩) (Below.heap_alloc wr.drew _ g hgl)).trans f1, (World.cell?_of_block (a := ⟨g, og + i * 4 + 2, none⟩) (Below.heap_alloc wr.drew _ g hgl)).trans f2, (World.cell?_of_block (a := ⟨g, og + i * 4 + 3, none⟩) (Below.heap_alloc wr.drew _ g hgl)).trans f3⟩)
                  have HSB := Lib.hid (show (fun W => W.cell? ⟨w3.heap.size, 3, none⟩ = some (.slice (some ⟨g, og, none⟩) rm rc) ∧ W.cell? ⟨g, og + i * 4, none⟩ = some (.int .i64 kx) ∧ W.cell? ⟨g, og + i * 4 + 1, none⟩ = some (.string nx) ∧ W.cell? ⟨g, og + i * 4 + 2, none⟩ = some (.string vx) ∧ W.cell? ⟨g, og + i * 4 + 3, none⟩ = some (.slice Bx qx cx)) w' from ⟨hp6.cell 3, (World.cell?_of_block (a := ⟨g, og + i * 4, none⟩) hg6).trans f0, (World.cell?_of_block (a := ⟨g, og + i * 4 + 1, none⟩) hg6).trans f1, (World.cell?_of_block (a := ⟨g, og + i * 4 + 2, none⟩) hg6).trans f2, (World.cell?_of_block (a := ⟨g, og + i * 4 + 3, none⟩) hg6).trans f3⟩)
                  have hg7 : (w'.setCell ⟨w.heap.size + 1 + 1, 3, none⟩ (.slice A' acc2.length c1)).heap[g]? = wr.heap[g]? := (Below.heap_setCell _ _ _ _ hgne).trans hg6
                  have HSC := Lib.hid (show (fun W => W.cell? ⟨w3.heap.size, 3, none⟩ = some (.slice (some ⟨g, og, none⟩) rm rc) ∧ W.cell? ⟨g, og + i * 4, none⟩ = some (.int .i64 kx) ∧ W.cell? ⟨g, og + i * 4 + 1, none⟩ = some (.string nx) ∧ W.cell? ⟨g, og + i * 4 + 2, none⟩ = some (.string vx) ∧ W.cell? ⟨g, og + i * 4 + 3, none⟩ = some (.slice Bx qx cx)) (w'.setCell ⟨w.heap.size + 1 + 1, 3, none⟩ (.slice A' acc2.length c1)) from ⟨HPB.out.cell 3, (World.cell?_of_block (a := ⟨g, og + i * 4, none⟩) hg7).trans f0, (World.cell?_of_block (a := ⟨g, og + i * 4 + 1, none⟩) hg7).trans f1, (World.cell?_of_block (a := ⟨g, og + i * 4 + 2, none⟩) hg7).trans f2, (World.cell?_of_block (a := ⟨g, og + i * 4 + 3, none⟩) hg7).trans f3⟩)
                  clear hpi hki hzi hci hbi hrow htc htg hu hSA hSi hrun hS6 ht6 hbe hgr hat keepJ hbl hz6 hc6 hp6 hk6 hg6 hg7 hac hacc2 hbA
                  go_wp2_with fail
                  refine wp_region_held_drew (S := fun W => W.cell? ⟨w3.heap.size, 3, none⟩ = some (.slice (some ⟨g, og, none⟩) rm rc) ∧ W.cell? ⟨g, og + i * 4, none⟩ = some (.int .i64 kx) ∧ W.cell? ⟨g, og + i * 4 + 1, none⟩ = some (.string nx) ∧ W.cell? ⟨g, og + i * 4 + 2, none⟩ = some (.string vx) ∧ W.cell? ⟨g, og + i * 4 + 3, none⟩ = some (.slice Bx qx cx)) mixed ⟨u3, f0, f1, f2, f3⟩ (fun hS => ?_)
                  clear f0 f1 f2 f3 u0 u1 u2 u3
                  refine wpAnyH_take (i := 0) (v := .pointer (some ⟨w.heap.size + 1 + 1, 3, none⟩)) rfl (by kernel_rfl) (by kernel_rfl) (by kernel_rfl) (fun _ _ _ h => h) (Or.inl ⟨by rfl, fun W hW => by obtain ⟨h0, h1, h2, h3, h4⟩ := hW; go_simp⟩) hS ?_
                  refine wpAnyH_take (i := 2) (v := .pointer (some ⟨w3.heap.size, 3, none⟩)) rfl (by kernel_rfl) (by kernel_rfl) (by kernel_rfl) (fun _ _ _ h => h) (Or.inl ⟨by rfl, fun W hW => by obtain ⟨h0, h1, h2, h3, h4⟩ := hW; go_simp⟩) hS ?_
                  refine wpAnyH_take (i := 3) (v := .slice (some ⟨g, og, none⟩) rm rc) rfl (by kernel_rfl) (by kernel_rfl) (by kernel_rfl) (fun _ _ _ h => h) (Or.inl ⟨by rfl, fun W hW => by obtain ⟨h0, h1, h2, h3, h4⟩ := hW; go_simp⟩) hS ?_
                  refine wpAnyH_take (i := 4) (v := .int .i64 i) rfl (by kernel_rfl) (by kernel_rfl) (by kernel_rfl) (fun _ _ _ h => h) (Or.inl ⟨by rfl, fun W hW => by obtain ⟨h0, h1, h2, h3, h4⟩ := hW; go_simp⟩) hS ?_
                  refine wpAnyH_take (i := 5) (v := .pointer (some ⟨g, og + i * 4, none⟩)) rfl (by kernel_rfl) (by kernel_rfl) (by kernel_rfl) (fun _ _ _ h => h) (Or.inl ⟨by rfl, fun W hW => by obtain ⟨h0, h1, h2, h3, h4⟩ := hW; go_simp⟩) hS ?_
                  refine wpAnyH_take (i := 6) (v := .agg #[.int .i64 kx, .string nx, .string vx, .slice Bx qx cx]) rfl (by kernel_rfl) (by kernel_rfl) (by kernel_rfl) (fun _ _ _ h => h) (Or.inl ⟨by rfl, fun W hW => by obtain ⟨h0, h1, h2, h3, h4⟩ := hW; go_simp⟩) hS ?_
                  refine wpAnyH_ready (rs := [1, 7]) (by kernel_rfl) (by simp) ?_
                  refine AllReadyH.cons rfl (fun K hK => ?_) (AllReadyH.cons rfl (fun K hK => ?_) AllReadyH.nil)
                  · skip
                    go_simp
                    refine hK.out _ _ hS (fun hS => ?_)
                    clear hK K
                    refine wpAnyH_ready (rs := [7]) (by kernel_rfl) (by simp) ?_
                    refine AllReadyH.cons rfl (fun K hK => ?_) AllReadyH.nil
                    go_simp
                    refine hK.out _ _ HSA.out (fun hS => ?_)
                    clear hK K
                    refine wpAnyH_ready (rs := [8]) (by kernel_rfl) (by simp) ?_
                    refine AllReadyH.cons rfl (fun K hK => ?_) AllReadyH.nil
                    refine step_append_run rfl (.tmp 65) (.tmp 71) 74 rfl _ _ _ rfl rfl HRUN.out ?_
                    refine hK.out _ _ HSB.out (fun hS => ?_)
                    clear hK K
                    refine wpAnyH_ready (rs := [9]) (by kernel_rfl) (by simp) ?_
                    refine AllReadyH.cons rfl (fun K hK => ?_) AllReadyH.nil
                    go_simp
                    refine hK.out _ _ hS (fun hS => ?_)
                    clear hK K
                    refine wpAnyH_ready (rs := [10]) (by kernel_rfl) (by simp) ?_
                    refine AllReadyH.cons rfl (fun K hK => ?_) AllReadyH.nil
                    go_simp
                    refine hK.out _ _ HSC.out (fun hS => ?_)
                    clear hK K
                    refine wpAnyH_done (by kernel_rfl) ?_ _
                    go_wp2
                    go_roundw
                    case rel => exact ⟨i + 1, A', c1, acc2, by omega, by go_num, HA2.out, HS6.out, HPB.out, HKB.out, HZB.out, HCB.out, HBL.out, HRW.out⟩
                    case measure => simp [intOf]; omega
                  · skip
                    go_simp
                    refine hK.out _ _ HSA.out (fun hS => ?_)
                    clear hK K
                    refine wpAnyH_ready (rs := [1]) (by kernel_rfl) (by simp) ?_
                    refine AllReadyH.cons rfl (fun K hK => ?_) AllReadyH.nil
                    go_simp
                    refine hK.out _ _ hS (fun hS => ?_)
                    clear hK K
                    refine wpAnyH_ready (rs := [8]) (by kernel_rfl) (by simp) ?_
                    refine AllReadyH.cons rfl (fun K hK => ?_) AllReadyH.nil
                    refine step_append_run rfl (.tmp 65) (.tmp 71) 74 rfl _ _ _ rfl rfl HRUN.out ?_
                    refine hK.out _ _ HSB.out (fun hS => ?_)
                    clear hK K
                    refine wpAnyH_ready (rs := [9]) (by kernel_rfl) (by simp) ?_
                    refine AllReadyH.cons rfl (fun K hK => ?_) AllReadyH.nil
                    go_simp
                    refine hK.out _ _ hS (fun hS => ?_)
                    clear hK K
                    refine wpAnyH_ready (rs := [10]) (by kernel_rfl) (by simp) ?_
                    refine AllReadyH.cons rfl (fun K hK => ?_) AllReadyH.nil
                    go_simp
                    refine hK.out _ _ HSC.out (fun hS => ?_)
                    clear hK K
                    refine wpAnyH_done (by kernel_rfl) ?_ _
                    go_wp2
                    go_roundw
                    case rel => exact ⟨i + 1, A', c1, acc2, by omega, by go_num, HA2.out, HS6.out, HPB.out, HKB.out, HZB.out, HCB.out, HBL.out, HRW.out⟩
                    case measure => simp [intOf]; omega
                · obtain rfl : i = rm := by omega
                  have HA3 := Lib.hid (show acc ++ rkids = ac by rw [← hac, List.take_of_length_le (by omega)])
                  have HSi := Lib.hid hSi
                  have HZi := Lib.hid hzi
                  have HCi := Lib.hid hci
                  clear hSi hpi hki hzi hci hrow hac
                  go_wp2
                  go_roundw
                  case rel => exact ⟨j + 1, Ai, ci, ac, by omega, by go_num, by rw [HSN.out, ← HACC.out, HA3.out], HSi.out, HZi.out, HCi.out, hbi⟩
                  case measure => simp [intOf]; omega
          · obtain rfl : j = m := by omega
            rw [List.take_of_length_le (by rw [hk.1]; omega)] at hacc
            obtain ⟨d0, cells0, ho0, hr0⟩ := hS.row
            obtain ⟨p0, p1, p2, p3, _⟩ := blkz hS.top
            obtain ⟨z0, z1, z2, z3, y0, y1, y2, y3⟩ := blkz hz
            have HN := Lib.hid (cond_node (k := k) (n := n) (v := v) ho0 (hr0.mono (Y := fun j => w.heap.size + 3 ≤ j ∧ j < wr.heap.size) fun j hj => ⟨hj.1, hj.2.1⟩) (fun b hb => ho0.lt b hb) hn hv)
            have HACC := Lib.hid hacc
            clear ho0 hr0 hS hz hk hacc ha hcb
            go_wp2_with fail
            refine bodyPost_ret (v := .agg #[.int .i64 k, .string n, .string v, .slice Ao acc.length cap]) (by simp [results, Try.results50, go_sem, *]) rfl ?_
            rw [HR.out, ← HACC.out]
            refine ⟨_, n, v, Ao, acc.length, cap, d0 + 1, rfl, ?_, set4_below hb (by omega)⟩
            refine (HN.out.keep fun j hj => set4_far _ _ _ _ _ _ j (by omega)).mono fun j hj => ⟨by omega, by rw [set4_size]; exact hj.2⟩
      · have hk4 : k = 1 ∨ k = 2 ∨ k = 4 ∨ k = 5 := by rcases alone_cases ha with h | h | h <;> omega
        rcases hk4 with rfl | rfl | rfl | rfl
        · have hwk : (if (true : Bool) then opp 1 else 1) = 2 := by simp [opp]
          rw [hwk] at HR hkk
          have hbw := (((Below.refl _ w).alloc (Nat.le_refl _) (.cells #[.int .i64 1, .string n, .string v, .slice A m c] 76)).alloc (by simp) (.cells #[.int .i64 0, .string ⟨#[]⟩, .string ⟨#[]⟩, .slice none 0 0] 76)).alloc (by simp; omega) (.cells #[.int .i64 2, .string n, .string v, .slice none 0 0] 76)
          have hz0 : Blk (((w.alloc (.cells #[.int .i64 1, .string n, .string v, .slice A m c] 76)).alloc (.cells #[.int .i64 0, .string ⟨#[]⟩, .string ⟨#[]⟩, .slice none 0 0] 76)).alloc (.cells #[.int .i64 2, .string n, .string v, .slice none 0 0] 76)) (w.heap.size + 1) 76 #[.int .i64 0, .string ⟨#[]⟩, .string ⟨#[]⟩, .slice none 0 0] := by simpa using (Blk.new (w.alloc (.cells #[.int .i64 1, .string n, .string v, .slice A m c] 76)) 76 #[.int .i64 0, .string ⟨#[]⟩, .string ⟨#[]⟩, .slice none 0 0]).alloc (.cells #[.int .i64 2, .string n, .string v, .slice none 0 0] 76)
          have hc0 : Blk (((w.alloc (.cells #[.int .i64 1, .string n, .string v, .slice A m c] 76)).alloc (.cells #[.int .i64 0, .string ⟨#[]⟩, .string ⟨#[]⟩, .slice none 0 0] 76)).alloc (.cells #[.int .i64 2, .string n, .string v, .slice none 0 0] 76)) w.heap.size 76 #[.int .i64 1, .string n, .string v, .slice A m c] := ((Blk.new w _ _).alloc _).alloc _
          have hs0 : SAt (w.heap.size + 3) (w.heap.size + 1 + 1) 2 n v none 0 [] (((w.alloc (.cells #[.int .i64 1, .string n, .string v, .slice A m c] 76)).alloc (.cells #[.int .i64 0, .string ⟨#[]⟩, .string ⟨#[]⟩, .slice none 0 0] 76)).alloc (.cells #[.int .i64 2, .string n, .string v, .slice none 0 0] 76)) :=
            ⟨by simpa using Blk.new ((w.alloc (.cells #[.int .i64 1, .string n, .string v, .slice A m c] 76)).alloc (.cells #[.int .i64 0, .string ⟨#[]⟩, .string ⟨#[]⟩, .slice none 0 0] 76)) 76 #[.int .i64 2, .string n, .string v, .slice none 0 0], ⟨by omega, by simp⟩, 0, [], World.ownsRow_nil _ _ _ _, RowC.nil _ _ _⟩
          go_enter Try.func50, Try.ntmps50
          go_wp2_with fail
          go_loopw [7] (fun i wr => ∃ (j : Nat) (Ao : Option Addr) (cap : Nat) (acc : List CT), j ≤ m ∧ i = .int .i64 j ∧ acc = simpK true 2 (kids.take j) ∧ SAt (w.heap.size + 3) (w.heap.size + 1 + 1) 2 n v Ao cap acc wr ∧ Blk wr (w.heap.size + 1) 76 #[.int .i64 0, .string ⟨#[]⟩, .string ⟨#[]⟩, .slice none 0 0] ∧ Blk wr w.heap.size 76 #[.int .i64 1, .string n, .string v, .slice A m c] ∧ Below w.heap.size w wr) (fun i _ => m - (intOf i).toNat)
          case atStart => exact ⟨0, none, 0, [], Nat.zero_le _, rfl, rfl, hs0, hz0, hc0, hbw⟩
          case round =>
            clear hs0 hz0 hc0 hbw
            obtain ⟨j, Ao, cap, acc, hj, rfl, hacc, hS, hz, hcb, hb⟩ := hrel
            have hlow := hS.low
            obtain ⟨s0, s1, s2, s3⟩ := blkc hcb
            by_cases hlt : j < m
            · exfalso
              rcases alone_cases ha with h | h | h <;> omega
            · obtain rfl : j = m := by omega
              rw [List.take_of_length_le (by rw [hk.1]; omega)] at hacc
              obtain ⟨d0, cells0, ho0, hr0⟩ := hS.row
              obtain ⟨p0, p1, p2, p3, _⟩ := blkz hS.top
              obtain ⟨z0, z1, z2, z3, y0, y1, y2, y3⟩ := blkz hz
              have HN := Lib.hid (cond_node (k := 2) (n := n) (v := v) ho0 (hr0.mono (Y := fun j => w.heap.size + 3 ≤ j ∧ j < wr.heap.size) fun j hj => ⟨hj.1, hj.2.1⟩) (fun b hb => ho0.lt b hb) hn hv)
              have HACC := Lib.hid hacc
              clear ho0 hr0 hS hz hk hacc ha hcb
              go_wp2_with fail
              refine bodyPost_ret (v := .agg #[.int .i64 2, .string n, .string v, .slice Ao acc.length cap]) (by simp [results, Try.results50, go_sem, *]) rfl ?_
              rw [HR.out, ← HACC.out]
              refine ⟨_, n, v, Ao, acc.length, cap, d0 + 1, rfl, ?_, set4_below hb (by omega)⟩
              refine (HN.out.keep fun j hj => set4_far _ _ _ _ _ _ j (by omega)).mono fun j hj => ⟨by omega, by rw [set4_size]; exact hj.2⟩
        · have hwk : (if (true : Bool) then opp 2 else 2) = 1 := by simp [opp]
          rw [hwk] at HR hkk
          have hbw := (((Below.refl _ w).alloc (Nat.le_refl _) (.cells #[.int .i64 2, .string n, .string v, .slice A m c] 76)).alloc (by simp) (.cells #[.int .i64 0, .string ⟨#[]⟩, .string ⟨#[]⟩, .slice none 0 0] 76)).alloc (by simp; omega) (.cells #[.int .i64 1, .string n, .string v, .slice none 0 0] 76)
          have hz0 : Blk (((w.alloc (.cells #[.int .i64 2, .string n, .string v, .slice A m c] 76)).alloc (.cells #[.int .i64 0, .string ⟨#[]⟩, .string ⟨#[]⟩, .slice none 0 0] 76)).alloc (.cells #[.int .i64 1, .string n, .string v, .slice none 0 0] 76)) (w.heap.size + 1) 76 #[.int .i64 0, .string ⟨#[]⟩, .string ⟨#[]⟩, .slice none 0 0] := by simpa using (Blk.new (w.alloc (.cells #[.int .i64 2, .string n, .string v, .slice A m c] 76)) 76 #[.int .i64 0, .string ⟨#[]⟩, .string ⟨#[]⟩, .slice none 0 0]).alloc (.cells #[.int .i64 1, .string n, .string v, .slice none 0 0] 76)
          have hc0 : Blk (((w.alloc (.cells #[.int .i64 2, .string n, .string v, .slice A m c] 76)).alloc (.cells #[.int .i64 0, .string ⟨#[]⟩, .string ⟨#[]⟩, .slice none 0 0] 76)).alloc (.cells #[.int .i64 1, .string n, .string v, .slice none 0 0] 76)) w.heap.size 76 #[.int .i64 2, .string n, .string v, .slice A m c] := ((Blk.new w _ _).alloc _).alloc _
          have hs0 : SAt (w.heap.size + 3) (w.heap.size + 1 + 1) 1 n v none 0 [] (((w.alloc (.cells #[.int .i64 2, .string n, .string v, .slice A m c] 76)).alloc (.cells #[.int .i64 0, .string ⟨#[]⟩, .string ⟨#[]⟩, .slice none 0 0] 76)).alloc (.cells #[.int .i64 1, .string n, .string v, .slice none 0 0] 76)) :=
            ⟨by simpa using Blk.new ((w.alloc (.cells #[.int .i64 2, .string n, .string v, .slice A m c] 76)).alloc (.cells #[.int .i64 0, .string ⟨#[]⟩, .string ⟨#[]⟩, .slice none 0 0] 76)) 76 #[.int .i64 1, .string n, .string v, .slice none 0 0], ⟨by omega, by simp⟩, 0, [], World.ownsRow_nil _ _ _ _, RowC.nil _ _ _⟩
          go_enter Try.func50, Try.ntmps50
          go_wp2_with fail
          go_loopw [7] (fun i wr => ∃ (j : Nat) (Ao : Option Addr) (cap : Nat) (acc : List CT), j ≤ m ∧ i = .int .i64 j ∧ acc = simpK true 1 (kids.take j) ∧ SAt (w.heap.size + 3) (w.heap.size + 1 + 1) 1 n v Ao cap acc wr ∧ Blk wr (w.heap.size + 1) 76 #[.int .i64 0, .string ⟨#[]⟩, .string ⟨#[]⟩, .slice none 0 0] ∧ Blk wr w.heap.size 76 #[.int .i64 2, .string n, .string v, .slice A m c] ∧ Below w.heap.size w wr) (fun i _ => m - (intOf i).toNat)
          case atStart => exact ⟨0, none, 0, [], Nat.zero_le _, rfl, rfl, hs0, hz0, hc0, hbw⟩
          case round =>
            clear hs0 hz0 hc0 hbw
            obtain ⟨j, Ao, cap, acc, hj, rfl, hacc, hS, hz, hcb, hb⟩ := hrel
            have hlow := hS.low
            obtain ⟨s0, s1, s2, s3⟩ := blkc hcb
            by_cases hlt : j < m
            · exfalso
              rcases alone_cases ha with h | h | h <;> omega
            · obtain rfl : j = m := by omega
              rw [List.take_of_length_le (by rw [hk.1]; omega)] at hacc
              obtain ⟨d0, cells0, ho0, hr0⟩ := hS.row
              obtain ⟨p0, p1, p2, p3, _⟩ := blkz hS.top
              obtain ⟨z0, z1, z2, z3, y0, y1, y2, y3⟩ := blkz hz
              have HN := Lib.hid (cond_node (k := 1) (n := n) (v := v) ho0 (hr0.mono (Y := fun j => w.heap.size + 3 ≤ j ∧ j < wr.heap.size) fun j hj => ⟨hj.1, hj.2.1⟩) (fun b hb => ho0.lt b hb) hn hv)
              have HACC := Lib.hid hacc
              clear ho0 hr0 hS hz hk hacc ha hcb
              go_wp2_with fail
              refine bodyPost_ret (v := .agg #[.int .i64 1, .string n, .string v, .slice Ao acc.length cap]) (by simp [results, Try.results50, go_sem, *]) rfl ?_
              rw [HR.out, ← HACC.out]
              refine ⟨_, n, v, Ao, acc.length, cap, d0 + 1, rfl, ?_, set4_below hb (by omega)⟩
              refine (HN.out.keep fun j hj => set4_far _ _ _ _ _ _ j (by omega)).mono fun j hj => ⟨by omega, by rw [set4_size]; exact hj.2⟩
        · have hwk : (if (true : Bool) then opp 4 else 4) = 5 := by simp [opp]
          rw [hwk] at HR hkk
          have hbw := (((Below.refl _ w).alloc (Nat.le_refl _) (.cells #[.int .i64 4, .string n, .string v, .slice A m c] 76)).alloc (by simp) (.cells #[.int .i64 0, .string ⟨#[]⟩, .string ⟨#[]⟩, .slice none 0 0] 76)).alloc (by simp; omega) (.cells #[.int .i64 5, .string n, .string v, .slice none 0 0] 76)
          have hz0 : Blk (((w.alloc (.cells #[.int .i64 4, .string n, .string v, .slice A m c] 76)).alloc (.cells #[.int .i64 0, .string ⟨#[]⟩, .string ⟨#[]⟩, .slice none 0 0] 76)).alloc (.cells #[.int .i64 5, .string n, .string v, .slice none 0 0] 76)) (w.heap.size + 1) 76 #[.int .i64 0, .string ⟨#[]⟩, .string ⟨#[]⟩, .slice none 0 0] := by simpa using (Blk.new (w.alloc (.cells #[.int .i64 4, .string n, .string v, .slice A m c] 76)) 76 #[.int .i64 0, .string ⟨#[]⟩, .string ⟨#[]⟩, .slice none 0 0]).alloc (.cells #[.int .i64 5, .string n, .string v, .slice none 0 0] 76)
          have hc0 : Blk (((w.alloc (.cells #[.int .i64 4, .string n, .string v, .slice A m c] 76)).alloc (.cells #[.int .i64 0, .string ⟨#[]⟩, .string ⟨#[]⟩, .slice none 0 0] 76)).alloc (.cells #[.int .i64 5, .string n, .string v, .slice none 0 0] 76)) w.heap.size 76 #[.int .i64 4, .string n, .string v, .slice A m c] := ((Blk.new w _ _).alloc _).alloc _
          have hs0 : SAt (w.heap.size + 3) (w.heap.size + 1 + 1) 5 n v none 0 [] (((w.alloc (.cells #[.int .i64 4, .string n, .string v, .slice A m c] 76)).alloc (.cells #[.int .i64 0, .string ⟨#[]⟩, .string ⟨#[]⟩, .slice none 0 0] 76)).alloc (.cells #[.int .i64 5, .string n, .string v, .slice none 0 0] 76)) :=
            ⟨by simpa using Blk.new ((w.alloc (.cells #[.int .i64 4, .string n, .string v, .slice A m c] 76)).alloc (.cells #[.int .i64 0, .string ⟨#[]⟩, .string ⟨#[]⟩, .slice none 0 0] 76)) 76 #[.int .i64 5, .string n, .string v, .slice none 0 0], ⟨by omega, by simp⟩, 0, [], World.ownsRow_nil _ _ _ _, RowC.nil _ _ _⟩
          go_enter Try.func50, Try.ntmps50
          go_wp2_with fail
          go_loopw [7] (fun i wr => ∃ (j : Nat) (Ao : Option Addr) (cap : Nat) (acc : List CT), j ≤ m ∧ i = .int .i64 j ∧ acc = simpK true 5 (kids.take j) ∧ SAt (w.heap.size + 3) (w.heap.size + 1 + 1) 5 n v Ao cap acc wr ∧ Blk wr (w.heap.size + 1) 76 #[.int .i64 0, .string ⟨#[]⟩, .string ⟨#[]⟩, .slice none 0 0] ∧ Blk wr w.heap.size 76 #[.int .i64 4, .string n, .string v, .slice A m c] ∧ Below w.heap.size w wr) (fun i _ => m - (intOf i).toNat)
          case atStart => exact ⟨0, none, 0, [], Nat.zero_le _, rfl, rfl, hs0, hz0, hc0, hbw⟩
          case round =>
            clear hs0 hz0 hc0 hbw
            obtain ⟨j, Ao, cap, acc, hj, rfl, hacc, hS, hz, hcb, hb⟩ := hrel
            have hlow := hS.low
            obtain ⟨s0, s1, s2, s3⟩ := blkc hcb
            by_cases hlt : j < m
            · have hlt' : (j : Int) < (m : Int) := by omega
              have hj0 : (0 : Int) ≤ (j : Int) := by omega
              obtain ⟨h45, _⟩ : ((5 : Int) = 4 ∨ (5 : Int) = 5) ∧ ((4 : Int) = 4 ∨ (4 : Int) = 5) := by rcases alone_cases ha with h | h | h <;> first | omega | exact ⟨hkk h.1, h.1⟩
              obtain ⟨b, o, t, k', n', v', Bq, q, c', rfl, hX, htj, e0, e1, e2, e3, ht⟩ := hk.kid hlt
              have hrt := hrk t (List.mem_of_getElem? htj)
              have hsn := simpK_snoc (no := true) (k := 5) htj
              have hnk := simpK_names h45 true (kids.take (j + 1)) fun x hx => hrk x (List.mem_of_mem_take hx)
              have hnk2 := namesK_take kids (j + 1)
              have hNt : (namesT t).length ≤ 1000000000 := by
                have h1 := namesK_take kids (j + 1)
                rw [namesK_eq, List.take_add_one, htj] at h1
                simp only [List.flatMap_append, Option.toList_some, List.flatMap_cons, List.flatMap_nil, List.append_nil, List.length_append] at h1
                omega
              rw [hsn, ← hacc, List.length_append] at hnk
              replace e0 := (hb.cell (p := ⟨b, o + j * 4, none⟩) hX).trans e0
              replace e1 := (hb.cell (p := ⟨b, o + j * 4 + 1, none⟩) hX).trans e1
              replace e2 := (hb.cell (p := ⟨b, o + j * 4 + 2, none⟩) hX).trans e2
              replace e3 := (hb.cell (p := ⟨b, o + j * 4 + 3, none⟩) hX).trans e3
              have HC := Lib.hid (IH.out d t true _ _ _ _ wr (ht.below hb) hrt hNt)
              have HS := Lib.hid hS
              have HZ := Lib.hid hz
              have HCB0 := Lib.hid hcb
              have HSN := Lib.hid hsn
              have HACC := Lib.hid hacc
              have HRT := Lib.hid (simp_right f true t hrt)
              clear ht htj hk hrk hsn hS hz hacc hrt hcb
              go_wp2_with fail
              refine HC.out.mono ?_
              rintro e w3 ⟨rk, rn, rv, rA, rm, rc, rD, rfl, hc, hb1⟩
              have hw3 := hb1.size
              have hb4 : Below wr.heap.size wr (w3.alloc (.cells #[.int .i64 rk, .string rn, .string rv, .slice rA rm rc] 76)) := hb1.alloc hb1.size _
              have hS4 := HS.out.up hb4
              have hown4 : ∀ j, (Value.slice Ao acc.length cap).ownBlock = some j → j < wr.heap.size := fun j hj => by
                obtain ⟨d0, cells0, ho0, _⟩ := HS.out.row
                exact (ho0.lt j hj).2
              have hc4 : CondAt (w3.alloc (.cells #[.int .i64 rk, .string rn, .string rv, .slice rA rm rc] 76)) (fun j => wr.heap.size ≤ j ∧ j < w3.heap.size) rD (simpT true t) [.int .i64 rk, .string rn, .string rv, .slice rA rm rc] := hc.keep fun j hj => Below.heap_alloc _ _ _ hj.2
              have hz4 := HZ.out.below hb4 HZ.out.lt
              have hc04 := HCB0.out.below hb4 HCB0.out.lt
              have hp4 := Blk.new w3 76 #[.int .i64 rk, .string rn, .string rv, .slice rA rm rc]
              have hb44 := hb.trans (hb4.mono hb.size)
              obtain ⟨p0, p1, p2, p3, y0, y1, y2, y3⟩ := blkz hS4.top
              clear s0 s1 s2 s3
              cases hkr : (rk == 5)
              · -- one more
                have hfl : flat 5 (simpT true t) = [simpT true t] := by
                  obtain ⟨_, k1, _, _, _, _, _, _, _, hx, hcs, _⟩ := hc.form
                  simp only [List.cons.injEq, Value.int.injEq, true_and] at hcs
                  unfold flat
                  rw [if_neg]
                  rw [hx]
                  show k1 ≠ 5
                  rw [← hcs.1]
                  simpa using hkr
                rw [hfl] at HSN hnk
                have hb5 := (Below.refl _ (w3.alloc (.cells #[.int .i64 rk, .string rn, .string rv, .slice rA rm rc] 76))).alloc (Nat.le_refl _) (.cells #[.int .i64 rk, .string rn, .string rv, .slice rA rm rc] 76)
                have hS5 := hS4.up hb5
                have hu : KidsAt ((w3.alloc (.cells #[.int .i64 rk, .string rn, .string rv, .slice rA rm rc] 76)).alloc (.cells #[.int .i64 rk, .string rn, .string rv, .slice rA rm rc] 76)) (fun j => w.heap.size + 3 ≤ j ∧ j < ((w3.alloc (.cells #[.int .i64 rk, .string rn, .string rv, .slice rA rm rc] 76)).alloc (.cells #[.int .i64 rk, .string rn, .string rv, .slice rA rm rc] 76)).heap.size ∧ (Value.slice Ao acc.length cap).ownBlock ≠ some j) rD (some ⟨w3.heap.size + 1, 0, none⟩) 1 [simpT true t] := by
                  refine one_kid (v0 := .int .i64 rk) (v1 := .string rn) (v2 := .string rv) (v3 := .slice rA rm rc) ?_ ⟨by omega, by simp, fun e => by have := hown4 _ e; omega⟩ ?_
                  · simpa using Blk.new (w3.alloc (.cells #[.int .i64 rk, .string rn, .string rv, .slice rA rm rc] 76)) 76 #[.int .i64 rk, .string rn, .string rv, .slice rA rm rc]
                  · exact (hc4.keep fun j hj => Below.heap_alloc _ _ _ (by have := hj.2; simp; omega)).mono fun j hj => ⟨by have := hj.1; omega, by have := hj.2; simp; omega, fun e => by have := hown4 _ e; have := hj.1; omega⟩
                obtain ⟨acc2, hacc2⟩ : ∃ l, acc ++ [simpT true t] = l := ⟨_, rfl⟩
                obtain ⟨A', c1, w', hrun, ht6, hS6, hbe⟩ := SAt.app 74 (c2 := 1) hacc2 hS5 hu (by omega) (by simp at hnk; omega)
                have HRUN := Lib.hid hrun
                have HA2 := Lib.hid hacc2
                have HS6 := Lib.hid hS6
                have hbl : Below w.heap.size w w' := hb44.trans (((Below.refl _ _).alloc (by have := hb44.size; omega) _).trans (hbe w.heap.size (by omega)))
                have hz6 : Blk w' (w.heap.size + 1) 76 _ := (hz4.alloc (.cells #[.int .i64 rk, .string rn, .string rv, .slice rA rm rc] 76)).below (hbe (w.heap.size + 2) (by omega)) (by omega)
                have hc6 : Blk w' w.heap.size 76 _ := (hc04.alloc (.cells #[.int .i64 rk, .string rn, .string rv, .slice rA rm rc] 76)).below (hbe (w.heap.size + 2) (by omega)) (by omega)
                obtain ⟨r0, r1, r2, r3, x0, x1, x2, x3⟩ := blkz ht6
                have HZ6 := Lib.hid hz6
                have HC6 := Lib.hid hc6
                clear hacc2 hc hc4 hu hS5 hS4 hrun hS6 ht6 hz6 hc6 hfl hb1 hbe hp4 hz4 hc04
                go_wp2_with (at_builtin; refine wpList_append_run rfl (.tmp 75) (.tmp 77) 74 rfl _ _ _ rfl rfl HRUN.out ?_)
                go_roundw
                case rel => exact ⟨j + 1, _, _, acc2, by omega, by go_num, by rw [HSN.out, ← HACC.out, HA2.out], HS6.out, HZ6.out.far (by simp) _, HC6.out.far (by simp; try omega) _, hbl.setCell (by simp; omega) _⟩
                case measure => simp [intOf]; omega
              · -- its kids
                obtain ⟨dd, k1, n1, v1, rkids, A1, m1, c1, hD1, hx, hcs, _, _, _, _, hkk1⟩ := hc4.form
                simp only [List.cons.injEq, Value.int.injEq, Value.slice.injEq, true_and, and_true] at hcs
                obtain ⟨hcs1, -, -, hcs2, hcs3, -⟩ := hcs
                have hrk : rk = 5 := by simpa using hkr
                have hfl : flat 5 (simpT true t) = rkids := by
                  unfold flat
                  rw [if_pos]
                  · rw [hx]; rfl
                  · rw [hx]; show k1 = 5; rw [← hcs1, hrk]
                rw [hfl] at HSN hnk
                rw [← hcs2, ← hcs3] at hkk1
                have hrl := hkk1.1
                clear hc hc4 hx hcs1 hcs2 hcs3 hrk hD1 hb1 hfl p0 p1 p2 p3 y0 y1 y2 y3
                have hrm : rm ≤ 1000000000 := by omega
                obtain ⟨wo, hwo⟩ : ∃ wo, wo = wr := ⟨_, rfl⟩
                subst hwo
                go_wp2_with fail
                go_loopw [9] (fun ii wr => ∃ (i : Nat) (Ai : Option Addr) (ci : Nat) (ac : List CT), i ≤ rm ∧ ii = .int .i64 i ∧ acc ++ rkids.take i = ac ∧ SAt (w.heap.size + 3) (w.heap.size + 1 + 1) 5 n v Ai ci ac wr ∧ Blk wr w3.heap.size 76 #[.int .i64 rk, .string rn, .string rv, .slice rA rm rc] ∧ KidsAt wr (fun j => wo.heap.size ≤ j ∧ j < w3.heap.size) dd rA rm rkids ∧ Blk wr (w.heap.size + 1) 76 #[.int .i64 0, .string ⟨#[]⟩, .string ⟨#[]⟩, .slice none 0 0] ∧ Blk wr w.heap.size 76 #[.int .i64 4, .string n, .string v, .slice (some ⟨b, o, none⟩) m c] ∧ Below w.heap.size w wr ∧ (∀ j, (Value.slice Ai ac.length ci).ownBlock = some j → j < wo.heap.size ∨ w3.heap.size < j)) (fun ii _ => rm - (intOf ii).toNat)
                case atStart => exact ⟨0, Ao, cap, acc, Nat.zero_le _, rfl, by simp, hS4, hp4, hkk1, hz4, hc04, hb44, fun j hj => .inl (hown4 j hj)⟩
                case round =>
                  clear hS4 hp4 hkk1 hz4 hc04 hb44 hown4
                  obtain ⟨i, Ai, ci, ac, hi, rfl, hac, hSi, hpi, hki, hzi, hci, hbi, hrow⟩ := hrel
                  obtain ⟨u0, u1, u2, u3⟩ := blkc hpi
                  obtain ⟨p0, p1, p2, p3, y0, y1, y2, y3⟩ := blkz hSi.top
                  by_cases hlti : i < rm
                  · have hlti' : (i : Int) < (rm : Int) := by omega
                    have hi0 : (0 : Int) ≤ (i : Int) := by omega
                    obtain ⟨g, og, t', kx, nx, vx, Bx, qx, cx, rfl, hXg, htg, f0, f1, f2, f3, htc⟩ := hki.kid hlti
                    have hgl : g < wr.heap.size := by have := hpi.lt; have := hXg.2; omega
                    have hlowi := hSi.low
                    have hql : w.heap.size + 1 + 1 < wr.heap.size := by omega
                    have hpl := hpi.lt
                    have hbA := (Below.refl wr.drew.heap.size wr.drew).alloc (Nat.le_refl _) (.cells #[.int .i64 kx, .string nx, .string vx, .slice Bx qx cx] 76)
                    have hSA : SAt (w.heap.size + 3) (w.heap.size + 1 + 1) 5 n v Ai ci ac (wr.drew.alloc (.cells #[.int .i64 kx, .string nx, .string vx, .slice Bx qx cx] 76)) := SAt.up (wr := wr) hSi ⟨hbA.os, hbA.tape, hbA.output, hbA.size, hbA.block⟩
                    have hu : KidsAt (wr.drew.alloc (.cells #[.int .i64 kx, .string nx, .string vx, .slice Bx qx cx] 76)) (fun j => w.heap.size + 3 ≤ j ∧ j < (wr.drew.alloc (.cells #[.int .i64 kx, .string nx, .string vx, .slice Bx qx cx] 76)).heap.size ∧ (Value.slice Ai ac.length ci).ownBlock ≠ some j) dd (some ⟨wr.heap.size, 0, none⟩) 1 [t'] := by
                      refine one_kid (v0 := .int .i64 kx) (v1 := .string nx) (v2 := .string vx) (v3 := .slice Bx qx cx) (Blk.new wr.drew 76 #[.int .i64 kx, .string nx, .string vx, .slice Bx qx cx]) ⟨by omega, by simp, fun e => ?_⟩ ?_
                      · obtain ⟨d0, cells0, ho0, _⟩ := hSi.row
                        have := (ho0.lt _ e).2
                        omega
                      · exact (CondAt.keep (w := wr) (w' := wr.drew.alloc (.cells #[.int .i64 kx, .string nx, .string vx, .slice Bx qx cx] 76)) (fun j hj => Below.heap_alloc wr.drew _ j (by have := hj.2; show j < wr.heap.size; omega)) htc).mono fun j hj => ⟨by have := hj.1; omega, by have := hj.2; simp; omega, fun e => by have := hrow j e; have := hj.1; have := hj.2; omega⟩
                    obtain ⟨acc2, hacc2⟩ : ∃ l, ac ++ [t'] = l := ⟨_, rfl⟩
                    have hacl : ac.length + 1 ≤ 1000000000 := by
                      rw [← hac, List.length_append]
                      have := List.length_take_le i rkids
                      omega
                    obtain ⟨A', c1, w', hrun, ht6, hS6, hbe, hgr, hat⟩ := SAt.app2 74 (c2 := 1) hacc2 hSA hu (by omega) hacl
                    have HRUN := Lib.hid hrun
                    have HA2 := Lib.hid (show acc ++ rkids.take (i + 1) = acc2 by rw [← hacc2, ← hac, List.take_add_one, htg]; simp)
                    have HS6 := Lib.hid hS6
                    have keepJ : ∀ j, w.heap.size + 3 ≤ j → j < wr.heap.size → (Value.slice Ai ac.length ci).ownBlock ≠ some j → w'.heap[j]? = wr.heap[j]? := fun j h1 h2 h3 => (hgr.block j (by simp; omega) (fun e => h3 e.symm)).trans (Below.heap_alloc wr.drew _ j h2)
                    have hbl : Below w.heap.size w w' := hbi.trans ((show Below w.heap.size wr (wr.drew.alloc (.cells #[.int .i64 kx, .string nx, .string vx, .slice Bx qx cx] 76)) from ⟨hbA.os, hbA.tape, hbA.output, hbA.size, fun j hj => hbA.block j (by have := hbi.size; show j < wr.heap.size; omega)⟩).trans (hbe w.heap.size (by omega)))
                    have hz6 : Blk w' (w.heap.size + 1) 76 _ := (hzi.drew.alloc (.cells #[.int .i64 kx, .string nx, .string vx, .slice Bx qx cx] 76)).below (hbe (w.heap.size + 2) (by omega)) (by omega)
                    have hc6 : Blk w' w.heap.size 76 _ := (hci.drew.alloc (.cells #[.int .i64 kx, .string nx, .string vx, .slice Bx qx cx] 76)).below (hbe (w.heap.size + 2) (by omega)) (by omega)
                    have hp6 : Blk w' w3.heap.size 76 #[.int .i64 rk, .string rn, .string rv, .slice (some ⟨g, og, none⟩) rm rc] := (keepJ w3.heap.size (by omega) hpl (fun e => by have := hrow _ e; omega)).trans hpi
                    have hk6 : KidsAt w' (fun j => wo.heap.size ≤ j ∧ j < w3.heap.size) dd (some ⟨g, og, none⟩) rm rkids := hki.keep fun j hj => keepJ j (by have := hj.1; omega) (by have := hj.2; omega) (fun e => by have := hrow _ e; have := hj.1; have := hj.2; omega)
                    have hg6 : w'.heap[g]? = wr.heap[g]? := keepJ g (by have := hXg.1; omega) hgl (fun e => by have := hrow _ e; have := hXg.1; have := hXg.2; omega)
                    obtain ⟨r0, r1, r2, r3, x0, x1, x2, x3⟩ := blkz ht6
                    have hqne : w3.heap.size ≠ w.heap.size + 1 + 1 := by omega
                    have hgne : g ≠ w.heap.size + 1 + 1 := by have := hXg.1; omega
                    have HPB := Lib.hid (hp6.far (p := ⟨w.heap.size + 1 + 1, 3, none⟩) hqne (.slice A' acc2.length c1))
                    have HKB := Lib.hid (show KidsAt (w'.setCell ⟨w.heap.size + 1 + 1, 3, none⟩ (.slice A' acc2.length c1)) (fun j => wo.heap.size ≤ j ∧ j < w3.heap.size) dd (some ⟨g, og, none⟩) rm rkids from hk6.keep fun j hj => Below.heap_setCell _ _ _ _ (by have := hj.1; show j ≠ w.heap.size + 1 + 1; omega))
                    have HZB := Lib.hid (hz6.far (p := ⟨w.heap.size + 1 + 1, 3, none⟩) (by simp) (.slice A' acc2.length c1))
                    have HCB := Lib.hid (hc6.far (p := ⟨w.heap.size + 1 + 1, 3, none⟩) (by simp; try omega) (.slice A' acc2.length c1))
                    have HBL := Lib.hid (hbl.setCell (p := ⟨w.heap.size + 1 + 1, 3, none⟩) (by simp; omega) (.slice A' acc2.length c1))
                    have HRW := Lib.hid (show ∀ j, (Value.slice A' acc2.length c1).ownBlock = some j → j < wo.heap.size ∨ w3.heap.size < j from fun j hj => by
                      rcases hat with e | e
                      · rw [e] at hj; exact hrow j hj
                      · rw [e] at hj
                        injection hj with hj
                        simp at hj
                        omega)
                    have HSA := Lib.hid (show (fun W => W.cell? ⟨w3.heap.size, 3, none⟩ = some (.slice (some ⟨g, og, none⟩) rm rc) ∧ W.cell? ⟨g, og + i * 4, none⟩ = some (.int .i64 kx) ∧ W.cell? ⟨g, og + i * 4 + 1, none⟩ = some (.string nx) ∧ W.cell? ⟨g, og + i * 4 + 2, none⟩ = some (.string vx) ∧ W.cell? ⟨g, og + i * 4 + 3, none⟩ = some (.slice Bx qx cx)) (wr.drew.alloc (.cells #[.int .i64 kx, .string nx, .string vx, .slice Bx qx cx] 76)) from ⟨(World.cell?_of_block (a := ⟨w3.heap.size, 3, none⟩) (Below.heap_alloc wr.drew _ w3.heap.size hpl)).trans u3, (World.cell?_of_block (a := ⟨g, og + i * 4, none⟩) (Below.heap_alloc wr.drew _ g hgl)).trans f0, (World.cell?_of_block (a := ⟨g, og + i * 4 + 1, none⟩) (Below.heap_alloc wr.drew _ g hgl)).trans f1, (World.cell?_of_block (a := ⟨g, og + i * 4 + 2, none⟩) (Below.heap_alloc wr.drew _ g hgl)).trans f2, (World.cell?_of_block (a := ⟨g, og + i * 4 + 3, none⟩) (Below.heap_alloc wr.drew _ g hgl)).trans f3⟩)
                    have HSB := Lib.hid (show (fun W => W.cell? ⟨w3.heap.size, 3, none⟩ = some (.slice (some ⟨g, og, none⟩) rm rc) ∧ W.cell? ⟨g, og + i * 4, none⟩ = some (.int .i64 kx) ∧ W.cell? ⟨g, og + i * 4 + 1, none⟩ = some (.string nx) ∧ W.cell? ⟨g, og + i * 4 + 2, none⟩ = some (.string vx) ∧ W.cell? ⟨g, og + i * 4 + 3, none⟩ = some (.slice Bx qx cx)) w' from ⟨hp6.cell 3, (World.cell?_of_block (a := ⟨g, og + i * 4, none⟩) hg6).trans f0, (World.cell?_of_block (a := ⟨g, og + i * 4 + 1, none⟩) hg6).trans f1, (World.cell?_of_block (a := ⟨g, og + i * 4 + 2, none⟩) hg6).trans f2, (World.cell?_of_block (a := ⟨g, og + i * 4 + 3, none⟩) hg6).trans f3⟩)
                    have hg7 : (w'.setCell ⟨w.heap.size + 1 + 1, 3, none⟩ (.slice A' acc2.length c1)).heap[g]? = wr.heap[g]? := (Below.heap_setCell _ _ _ _ hgne).trans hg6
                    have HSC := Lib.hid (show (fun W => W.cell? ⟨w3.heap.size, 3, none⟩ = some (.slice (some ⟨g, og, none⟩) rm rc) ∧ W.cell? ⟨g, og + i * 4, none⟩ = some (.int .i64 kx) ∧ W.cell? ⟨g, og + i * 4 + 1, none⟩ = some (.string nx) ∧ W.cell? ⟨g, og + i * 4 + 2, none⟩ = some (.string vx) ∧ W.cell? ⟨g, og + i * 4 + 3, none⟩ = some (.slice Bx qx cx)) (w'.setCell ⟨w.heap.size + 1 + 1, 3, none⟩ (.slice A' acc2.length c1)) from ⟨HPB.out.cell 3, (World.cell?_of_block (a := ⟨g, og + i * 4, none⟩) hg7).trans f0, (World.cell?_of_block (a := ⟨g, og + i * 4 + 1, none⟩) hg7).trans f1, (World.cell?_of_block (a := ⟨g, og + i * 4 + 2, none⟩) hg7).trans f2, (World.cell?_of_block (a := ⟨g, og + i * 4 + 3, none⟩) hg7).trans f3⟩)
                    clear hpi hki hzi hci hbi hrow htc htg hu hSA hSi hrun hS6 ht6 hbe hgr hat keepJ hbl hz6 hc6 hp6 hk6 hg6 hg7 hac hacc2 hbA
                    go_wp2_with fail
                    refine wp_region_held_drew (S := fun W => W.cell? ⟨w3.heap.size, 3, none⟩ = some (.slice (some ⟨g, og, none⟩) rm rc) ∧ W.cell? ⟨g, og + i * 4, none⟩ = some (.int .i64 kx) ∧ W.cell? ⟨g, og + i * 4 + 1, none⟩ = some (.string nx) ∧ W.cell? ⟨g, og + i * 4 + 2, none⟩ = some (.string vx) ∧ W.cell? ⟨g, og + i * 4 + 3, none⟩ = some (.slice Bx qx cx)) mixed ⟨u3, f0, f1, f2, f3⟩ (fun hS => ?_)
                    clear f0 f1 f2 f3 u0 u1 u2 u3
                    refine wpAnyH_take (i := 0) (v := .pointer (some ⟨w.heap.size + 1 + 1, 3, none⟩)) rfl (by kernel_rfl) (by kernel_rfl) (by kernel_rfl) (fun _ _ _ h => h) (Or.inl ⟨by rfl, fun W hW => by obtain ⟨h0, h1, h2, h3, h4⟩ := hW; go_simp⟩) hS ?_
                    refine wpAnyH_take (i := 2) (v := .pointer (some ⟨w3.heap.size, 3, none⟩)) rfl (by kernel_rfl) (by kernel_rfl) (by kernel_rfl) (fun _ _ _ h => h) (Or.inl ⟨by rfl, fun W hW => by obtain ⟨h0, h1, h2, h3, h4⟩ := hW; go_simp⟩) hS ?_
                    refine wpAnyH_take (i := 3) (v := .slice (some ⟨g, og, none⟩) rm rc) rfl (by kernel_rfl) (by kernel_rfl) (by kernel_rfl) (fun _ _ _ h => h) (Or.inl ⟨by rfl, fun W hW => by obtain ⟨h0, h1, h2, h3, h4⟩ := hW; go_simp⟩) hS ?_
                    refine wpAnyH_take (i := 4) (v := .int .i64 i) rfl (by kernel_rfl) (by kernel_rfl) (by kernel_rfl) (fun _ _ _ h => h) (Or.inl ⟨by rfl, fun W hW => by obtain ⟨h0, h1, h2, h3, h4⟩ := hW; go_simp⟩) hS ?_
                    refine wpAnyH_take (i := 5) (v := .pointer (some ⟨g, og + i * 4, none⟩)) rfl (by kernel_rfl) (by kernel_rfl) (by kernel_rfl) (fun _ _ _ h => h) (Or.inl ⟨by rfl, fun W hW => by obtain ⟨h0, h1, h2, h3, h4⟩ := hW; go_simp⟩) hS ?_
                    refine wpAnyH_take (i := 6) (v := .agg #[.int .i64 kx, .string nx, .string vx, .slice Bx qx cx]) rfl (by kernel_rfl) (by kernel_rfl) (by kernel_rfl) (fun _ _ _ h => h) (Or.inl ⟨by rfl, fun W hW => by obtain ⟨h0, h1, h2, h3, h4⟩ := hW; go_simp⟩) hS ?_
                    refine wpAnyH_ready (rs := [1, 7]) (by kernel_rfl) (by simp) ?_
                    refine AllReadyH.cons rfl (fun K hK => ?_) (AllReadyH.cons rfl (fun K hK => ?_) AllReadyH.nil)
                    · skip
                      go_simp
                      refine hK.out _ _ hS (fun hS => ?_)
                      clear hK K
                      refine wpAnyH_ready (rs := [7]) (by kernel_rfl) (by simp) ?_
                      refine AllReadyH.cons rfl (fun K hK => ?_) AllReadyH.nil
                      go_simp
                      refine hK.out _ _ HSA.out (fun hS => ?_)
                      clear hK K
                      refine wpAnyH_ready (rs := [8]) (by kernel_rfl) (by simp) ?_
                      refine AllReadyH.cons rfl (fun K hK => ?_) AllReadyH.nil
                      refine step_append_run rfl (.tmp 65) (.tmp 71) 74 rfl _ _ _ rfl rfl HRUN.out ?_
                      refine hK.out _ _ HSB.out (fun hS => ?_)
                      clear hK K
                      refine wpAnyH_ready (rs := [9]) (by kernel_rfl) (by simp) ?_
                      refine AllReadyH.cons rfl (fun K hK => ?_) AllReadyH.nil
                      go_simp
                      refine hK.out _ _ hS (fun hS => ?_)
                      clear hK K
                      refine wpAnyH_ready (rs := [10]) (by kernel_rfl) (by simp) ?_
                      refine AllReadyH.cons rfl (fun K hK => ?_) AllReadyH.nil
                      go_simp
                      refine hK.out _ _ HSC.out (fun hS => ?_)
                      clear hK K
                      refine wpAnyH_done (by kernel_rfl) ?_ _
                      go_wp2
                      go_roundw
                      case rel => exact ⟨i + 1, A', c1, acc2, by omega, by go_num, HA2.out, HS6.out, HPB.out, HKB.out, HZB.out, HCB.out, HBL.out, HRW.out⟩
                      case measure => simp [intOf]; omega
                    · skip
                      go_simp
                      refine hK.out _ _ HSA.out (fun hS => ?_)
                      clear hK K
                      refine wpAnyH_ready (rs := [1]) (by kernel_rfl) (by simp) ?_
                      refine AllReadyH.cons rfl (fun K hK => ?_) AllReadyH.nil
                      go_simp
                      refine hK.out _ _ hS (fun hS => ?_)
                      clear hK K
                      refine wpAnyH_ready (rs := [8]) (by kernel_rfl) (by simp) ?_
                      refine AllReadyH.cons rfl (fun K hK => ?_) AllReadyH.nil
                      refine step_append_run rfl (.tmp 65) (.tmp 71) 74 rfl _ _ _ rfl rfl HRUN.out ?_
                      refine hK.out _ _ HSB.out (fun hS => ?_)
                      clear hK K
                      refine wpAnyH_ready (rs := [9]) (by kernel_rfl) (by simp) ?_
                      refine AllReadyH.cons rfl (fun K hK => ?_) AllReadyH.nil
                      go_simp
                      refine hK.out _ _ hS (fun hS => ?_)
                      clear hK K
                      refine wpAnyH_ready (rs := [10]) (by kernel_rfl) (by simp) ?_
                      refine AllReadyH.cons rfl (fun K hK => ?_) AllReadyH.nil
                      go_simp
                      refine hK.out _ _ HSC.out (fun hS => ?_)
                      clear hK K
                      refine wpAnyH_done (by kernel_rfl) ?_ _
                      go_wp2
                      go_roundw
                      case rel => exact ⟨i + 1, A', c1, acc2, by omega, by go_num, HA2.out, HS6.out, HPB.out, HKB.out, HZB.out, HCB.out, HBL.out, HRW.out⟩
                      case measure => simp [intOf]; omega
                  · obtain rfl : i = rm := by omega
                    have HA3 := Lib.hid (show acc ++ rkids = ac by rw [← hac, List.take_of_length_le (by omega)])
                    have HSi := Lib.hid hSi
                    have HZi := Lib.hid hzi
                    have HCi := Lib.hid hci
                    clear hSi hpi hki hzi hci hrow hac
                    go_wp2
                    go_roundw
                    case rel => exact ⟨j + 1, Ai, ci, ac, by omega, by go_num, by rw [HSN.out, ← HACC.out, HA3.out], HSi.out, HZi.out, HCi.out, hbi⟩
                    case measure => simp [intOf]; omega
            · obtain rfl : j = m := by omega
              rw [List.take_of_length_le (by rw [hk.1]; omega)] at hacc
              obtain ⟨d0, cells0, ho0, hr0⟩ := hS.row
              obtain ⟨p0, p1, p2, p3, _⟩ := blkz hS.top
              obtain ⟨z0, z1, z2, z3, y0, y1, y2, y3⟩ := blkz hz
              have HN := Lib.hid (cond_node (k := 5) (n := n) (v := v) ho0 (hr0.mono (Y := fun j => w.heap.size + 3 ≤ j ∧ j < wr.heap.size) fun j hj => ⟨hj.1, hj.2.1⟩) (fun b hb => ho0.lt b hb) hn hv)
              have HACC := Lib.hid hacc
              clear ho0 hr0 hS hz hk hacc ha hcb
              go_wp2_with fail
              refine bodyPost_ret (v := .agg #[.int .i64 5, .string n, .string v, .slice Ao acc.length cap]) (by simp [results, Try.results50, go_sem, *]) rfl ?_
              rw [HR.out, ← HACC.out]
              refine ⟨_, n, v, Ao, acc.length, cap, d0 + 1, rfl, ?_, set4_below hb (by omega)⟩
              refine (HN.out.keep fun j hj => set4_far _ _ _ _ _ _ j (by omega)).mono fun j hj => ⟨by omega, by rw [set4_size]; exact hj.2⟩
        · have hwk : (if (true : Bool) then opp 5 else 5) = 4 := by simp [opp]
          rw [hwk] at HR hkk
          have hbw := (((Below.refl _ w).alloc (Nat.le_refl _) (.cells #[.int .i64 5, .string n, .string v, .slice A m c] 76)).alloc (by simp) (.cells #[.int .i64 0, .string ⟨#[]⟩, .string ⟨#[]⟩, .slice none 0 0] 76)).alloc (by simp; omega) (.cells #[.int .i64 4, .string n, .string v, .slice none 0 0] 76)
          have hz0 : Blk (((w.alloc (.cells #[.int .i64 5, .string n, .string v, .slice A m c] 76)).alloc (.cells #[.int .i64 0, .string ⟨#[]⟩, .string ⟨#[]⟩, .slice none 0 0] 76)).alloc (.cells #[.int .i64 4, .string n, .string v, .slice none 0 0] 76)) (w.heap.size + 1) 76 #[.int .i64 0, .string ⟨#[]⟩, .string ⟨#[]⟩, .slice none 0 0] := by simpa using (Blk.new (w.alloc (.cells #[.int .i64 5, .string n, .string v, .slice A m c] 76)) 76 #[.int .i64 0, .string ⟨#[]⟩, .string ⟨#[]⟩, .slice none 0 0]).alloc (.cells #[.int .i64 4, .string n, .string v, .slice none 0 0] 76)
          have hc0 : Blk (((w.alloc (.cells #[.int .i64 5, .string n, .string v, .slice A m c] 76)).alloc (.cells #[.int .i64 0, .string ⟨#[]⟩, .string ⟨#[]⟩, .slice none 0 0] 76)).alloc (.cells #[.int .i64 4, .string n, .string v, .slice none 0 0] 76)) w.heap.size 76 #[.int .i64 5, .string n, .string v, .slice A m c] := ((Blk.new w _ _).alloc _).alloc _
          have hs0 : SAt (w.heap.size + 3) (w.heap.size + 1 + 1) 4 n v none 0 [] (((w.alloc (.cells #[.int .i64 5, .string n, .string v, .slice A m c] 76)).alloc (.cells #[.int .i64 0, .string ⟨#[]⟩, .string ⟨#[]⟩, .slice none 0 0] 76)).alloc (.cells #[.int .i64 4, .string n, .string v, .slice none 0 0] 76)) :=
            ⟨by simpa using Blk.new ((w.alloc (.cells #[.int .i64 5, .string n, .string v, .slice A m c] 76)).alloc (.cells #[.int .i64 0, .string ⟨#[]⟩, .string ⟨#[]⟩, .slice none 0 0] 76)) 76 #[.int .i64 4, .string n, .string v, .slice none 0 0], ⟨by omega, by simp⟩, 0, [], World.ownsRow_nil _ _ _ _, RowC.nil _ _ _⟩
          go_enter Try.func50, Try.ntmps50
          go_wp2_with fail
          go_loopw [7] (fun i wr => ∃ (j : Nat) (Ao : Option Addr) (cap : Nat) (acc : List CT), j ≤ m ∧ i = .int .i64 j ∧ acc = simpK true 4 (kids.take j) ∧ SAt (w.heap.size + 3) (w.heap.size + 1 + 1) 4 n v Ao cap acc wr ∧ Blk wr (w.heap.size + 1) 76 #[.int .i64 0, .string ⟨#[]⟩, .string ⟨#[]⟩, .slice none 0 0] ∧ Blk wr w.heap.size 76 #[.int .i64 5, .string n, .string v, .slice A m c] ∧ Below w.heap.size w wr) (fun i _ => m - (intOf i).toNat)
          case atStart => exact ⟨0, none, 0, [], Nat.zero_le _, rfl, rfl, hs0, hz0, hc0, hbw⟩
          case round =>
            clear hs0 hz0 hc0 hbw
            obtain ⟨j, Ao, cap, acc, hj, rfl, hacc, hS, hz, hcb, hb⟩ := hrel
            have hlow := hS.low
            obtain ⟨s0, s1, s2, s3⟩ := blkc hcb
            by_cases hlt : j < m
            · have hlt' : (j : Int) < (m : Int) := by omega
              have hj0 : (0 : Int) ≤ (j : Int) := by omega
              obtain ⟨h45, _⟩ : ((4 : Int) = 4 ∨ (4 : Int) = 5) ∧ ((5 : Int) = 4 ∨ (5 : Int) = 5) := by rcases alone_cases ha with h | h | h <;> first | omega | exact ⟨hkk h.1, h.1⟩
              obtain ⟨b, o, t, k', n', v', Bq, q, c', rfl, hX, htj, e0, e1, e2, e3, ht⟩ := hk.kid hlt
              have hrt := hrk t (List.mem_of_getElem? htj)
              have hsn := simpK_snoc (no := true) (k := 4) htj
              have hnk := simpK_names h45 true (kids.take (j + 1)) fun x hx => hrk x (List.mem_of_mem_take hx)
              have hnk2 := namesK_take kids (j + 1)
              have hNt : (namesT t).length ≤ 1000000000 := by
                have h1 := namesK_take kids (j + 1)
                rw [namesK_eq, List.take_add_one, htj] at h1
                simp only [List.flatMap_append, Option.toList_some, List.flatMap_cons, List.flatMap_nil, List.append_nil, List.length_append] at h1
                omega
              rw [hsn, ← hacc, List.length_append] at hnk
              replace e0 := (hb.cell (p := ⟨b, o + j * 4, none⟩) hX).trans e0
              replace e1 := (hb.cell (p := ⟨b, o + j * 4 + 1, none⟩) hX).trans e1
              replace e2 := (hb.cell (p := ⟨b, o + j * 4 + 2, none⟩) hX).trans e2
              replace e3 := (hb.cell (p := ⟨b, o + j * 4 + 3, none⟩) hX).trans e3
              have HC := Lib.hid (IH.out d t true _ _ _ _ wr (ht.below hb) hrt hNt)
              have HS := Lib.hid hS
              have HZ := Lib.hid hz
              have HCB0 := Lib.hid hcb
              have HSN := Lib.hid hsn
              have HACC := Lib.hid hacc
              have HRT := Lib.hid (simp_right f true t hrt)
              clear ht htj hk hrk hsn hS hz hacc hrt hcb
              go_wp2_with fail
              refine HC.out.mono ?_
              rintro e w3 ⟨rk, rn, rv, rA, rm, rc, rD, rfl, hc, hb1⟩
              have hw3 := hb1.size
              have hb4 : Below wr.heap.size wr (w3.alloc (.cells #[.int .i64 rk, .string rn, .string rv, .slice rA rm rc] 76)) := hb1.alloc hb1.size _
              have hS4 := HS.out.up hb4
              have hown4 : ∀ j, (Value.slice Ao acc.length cap).ownBlock = some j → j < wr.heap.size := fun j hj => by
                obtain ⟨d0, cells0, ho0, _⟩ := HS.out.row
                exact (ho0.lt j hj).2
              have hc4 : CondAt (w3.alloc (.cells #[.int .i64 rk, .string rn, .string rv, .slice rA rm rc] 76)) (fun j => wr.heap.size ≤ j ∧ j < w3.heap.size) rD (simpT true t) [.int .i64 rk, .string rn, .string rv, .slice rA rm rc] := hc.keep fun j hj => Below.heap_alloc _ _ _ hj.2
              have hz4 := HZ.out.below hb4 HZ.out.lt
              have hc04 := HCB0.out.below hb4 HCB0.out.lt
              have hp4 := Blk.new w3 76 #[.int .i64 rk, .string rn, .string rv, .slice rA rm rc]
              have hb44 := hb.trans (hb4.mono hb.size)
              obtain ⟨p0, p1, p2, p3, y0, y1, y2, y3⟩ := blkz hS4.top
              clear s0 s1 s2 s3
              cases hkr : (rk == 4)
              · -- one more
                have hfl : flat 4 (simpT true t) = [simpT true t] := by
                  obtain ⟨_, k1, _, _, _, _, _, _, _, hx, hcs, _⟩ := hc.form
                  simp only [List.cons.injEq, Value.int.injEq, true_and] at hcs
                  unfold flat
                  rw [if_neg]
                  rw [hx]
                  show k1 ≠ 4
                  rw [← hcs.1]
                  simpa using hkr
                rw [hfl] at HSN hnk
                have hb5 := (Below.refl _ (w3.alloc (.cells #[.int .i64 rk, .string rn, .string rv, .slice rA rm rc] 76))).alloc (Nat.le_refl _) (.cells #[.int .i64 rk, .string rn, .string rv, .slice rA rm rc] 76)
                have hS5 := hS4.up hb5
                have hu : KidsAt ((w3.alloc (.cells #[.int .i64 rk, .string rn, .string rv, .slice rA rm rc] 76)).alloc (.cells #[.int .i64 rk, .string rn, .string rv, .slice rA rm rc] 76)) (fun j => w.heap.size + 3 ≤ j ∧ j < ((w3.alloc (.cells #[.int .i64 rk, .string rn, .string rv, .slice rA rm rc] 76)).alloc (.cells #[.int .i64 rk, .string rn, .string rv, .slice rA rm rc] 76)).heap.size ∧ (Value.slice Ao acc.length cap).ownBlock ≠ some j) rD (some ⟨w3.heap.size + 1, 0, none⟩) 1 [simpT true t] := by
                  refine one_kid (v0 := .int .i64 rk) (v1 := .string rn) (v2 := .string rv) (v3 := .slice rA rm rc) ?_ ⟨by omega, by simp, fun e => by have := hown4 _ e; omega⟩ ?_
                  · simpa using Blk.new (w3.alloc (.cells #[.int .i64 rk, .string rn, .string rv, .slice rA rm rc] 76)) 76 #[.int .i64 rk, .string rn, .string rv, .slice rA rm rc]
                  · exact (hc4.keep fun j hj => Below.heap_alloc _ _ _ (by have := hj.2; simp; omega)).mono fun j hj => ⟨by have := hj.1; omega, by have := hj.2; simp; omega, fun e => by have := hown4 _ e; have := hj.1; omega⟩
                obtain ⟨acc2, hacc2⟩ : ∃ l, acc ++ [simpT true t] = l := ⟨_, rfl⟩
                obtain ⟨A', c1, w', hrun, ht6, hS6, hbe⟩ := SAt.app 74 (c2 := 1) hacc2 hS5 hu (by omega) (by simp at hnk; omega)
                have HRUN := Lib.hid hrun
                have HA2 := Lib.hid hacc2
                have HS6 := Lib.hid hS6
                have hbl : Below w.heap.size w w' := hb44.trans (((Below.refl _ _).alloc (by have := hb44.size; omega) _).trans (hbe w.heap.size (by omega)))
                have hz6 : Blk w' (w.heap.size + 1) 76 _ := (hz4.alloc (.cells #[.int .i64 rk, .string rn, .string rv, .slice rA rm rc] 76)).below (hbe (w.heap.size + 2) (by omega)) (by omega)
                have hc6 : Blk w' w.heap.size 76 _ := (hc04.alloc (.cells #[.int .i64 rk, .string rn, .string rv, .slice rA rm rc] 76)).below (hbe (w.heap.size + 2) (by omega)) (by omega)
                obtain ⟨r0, r1, r2, r3, x0, x1, x2, x3⟩ := blkz ht6
                have HZ6 := Lib.hid hz6
                have HC6 := Lib.hid hc6
                clear hacc2 hc hc4 hu hS5 hS4 hrun hS6 ht6 hz6 hc6 hfl hb1 hbe hp4 hz4 hc04
                go_wp2_with (at_builtin; refine wpList_append_run rfl (.tmp 75) (.tmp 77) 74 rfl _ _ _ rfl rfl HRUN.out ?_)
                go_roundw
                case rel => exact ⟨j + 1, _, _, acc2, by omega, by go_num, by rw [HSN.out, ← HACC.out, HA2.out], HS6.out, HZ6.out.far (by simp) _, HC6.out.far (by simp; try omega) _, hbl.setCell (by simp; omega) _⟩
                case measure => simp [intOf]; omega
              · -- its kids
                obtain ⟨dd, k1, n1, v1, rkids, A1, m1, c1, hD1, hx, hcs, _, _, _, _, hkk1⟩ := hc4.form
                simp only [List.cons.injEq, Value.int.injEq, Value.slice.injEq, true_and, and_true] at hcs
                obtain ⟨hcs1, -, -, hcs2, hcs3, -⟩ := hcs
                have hrk : rk = 4 := by simpa using hkr
                have hfl : flat 4 (simpT true t) = rkids := by
                  unfold flat
                  rw [if_pos]
                  · rw [hx]; rfl
                  · rw [hx]; show k1 = 4; rw [← hcs1, hrk]
                rw [hfl] at HSN hnk
                rw [← hcs2, ← hcs3] at hkk1
                have hrl := hkk1.1
                clear hc hc4 hx hcs1 hcs2 hcs3 hrk hD1 hb1 hfl p0 p1 p2 p3 y0 y1 y2 y3
                have hrm : rm ≤ 1000000000 := by omega
                obtain ⟨wo, hwo⟩ : ∃ wo, wo = wr := ⟨_, rfl⟩
                subst hwo
                go_wp2_with fail
                go_loopw [9] (fun ii wr => ∃ (i : Nat) (Ai : Option Addr) (ci : Nat) (ac : List CT), i ≤ rm ∧ ii = .int .i64 i ∧ acc ++ rkids.take i = ac ∧ SAt (w.heap.size + 3) (w.heap.size + 1 + 1) 4 n v Ai ci ac wr ∧ Blk wr w3.heap.size 76 #[.int .i64 rk, .string rn, .string rv, .slice rA rm rc] ∧ KidsAt wr (fun j => wo.heap.size ≤ j ∧ j < w3.heap.size) dd rA rm rkids ∧ Blk wr (w.heap.size + 1) 76 #[.int .i64 0, .string ⟨#[]⟩, .string ⟨#[]⟩, .slice none 0 0] ∧ Blk wr w.heap.size 76 #[.int .i64 5, .string n, .string v, .slice (some ⟨b, o, none⟩) m c] ∧ Below w.heap.size w wr ∧ (∀ j, (Value.slice Ai ac.length ci).ownBlock = some j → j < wo.heap.size ∨ w3.heap.size < j)) (fun ii _ => rm - (intOf ii).toNat)
                case atStart => exact ⟨0, Ao, cap, acc, Nat.zero_le _, rfl, by simp, hS4, hp4, hkk1, hz4, hc04, hb44, fun j hj => .inl (hown4 j hj)⟩
                case round =>
                  clear hS4 hp4 hkk1 hz4 hc04 hb44 hown4
                  obtain ⟨i, Ai, ci, ac, hi, rfl, hac, hSi, hpi, hki, hzi, hci, hbi, hrow⟩ := hrel
                  obtain ⟨u0, u1, u2, u3⟩ := blkc hpi
                  obtain ⟨p0, p1, p2, p3, y0, y1, y2, y3⟩ := blkz hSi.top
                  by_cases hlti : i < rm
                  · have hlti' : (i : Int) < (rm : Int) := by omega
                    have hi0 : (0 : Int) ≤ (i : Int) := by omega
                    obtain ⟨g, og, t', kx, nx, vx, Bx, qx, cx, rfl, hXg, htg, f0, f1, f2, f3, htc⟩ := hki.kid hlti
                    have hgl : g < wr.heap.size := by have := hpi.lt; have := hXg.2; omega
                    have hlowi := hSi.low
                    have hql : w.heap.size + 1 + 1 < wr.heap.size := by omega
                    have hpl := hpi.lt
                    have hbA := (Below.refl wr.drew.heap.size wr.drew).alloc (Nat.le_refl _) (.cells #[.int .i64 kx, .string nx, .string vx, .slice Bx qx cx] 76)
                    have hSA : SAt (w.heap.size + 3) (w.heap.size + 1 + 1) 4 n v Ai ci ac (wr.drew.alloc (.cells #[.int .i64 kx, .string nx, .string vx, .slice Bx qx cx] 76)) := SAt.up (wr := wr) hSi ⟨hbA.os, hbA.tape, hbA.output, hbA.size, hbA.block⟩
                    have hu : KidsAt (wr.drew.alloc (.cells #[.int .i64 kx, .string nx, .string vx, .slice Bx qx cx] 76)) (fun j => w.heap.size + 3 ≤ j ∧ j < (wr.drew.alloc (.cells #[.int .i64 kx, .string nx, .string vx, .slice Bx qx cx] 76)).heap.size ∧ (Value.slice Ai ac.length ci).ownBlock ≠ some j) dd (some ⟨wr.heap.size, 0, none⟩) 1 [t'] := by
                      refine one_kid (v0 := .int .i64 kx) (v1 := .string nx) (v2 := .string vx) (v3 := .slice Bx qx cx) (Blk.new wr.drew 76 #[.int .i64 kx, .string nx, .string vx, .slice Bx qx cx]) ⟨by omega, by simp, fun e => ?_⟩ ?_
                      · obtain ⟨d0, cells0, ho0, _⟩ := hSi.row
                        have := (ho0.lt _ e).2
                        omega
                      · exact (CondAt.keep (w := wr) (w' := wr.drew.alloc (.cells #[.int .i64 kx, .string nx, .string vx, .slice Bx qx cx] 76)) (fun j hj => Below.heap_alloc wr.drew _ j (by have := hj.2; show j < wr.heap.size; omega)) htc).mono fun j hj => ⟨by have := hj.1; omega, by have := hj.2; simp; omega, fun e => by have := hrow j e; have := hj.1; have := hj.2; omega⟩
                    obtain ⟨acc2, hacc2⟩ : ∃ l, ac ++ [t'] = l := ⟨_, rfl⟩
                    have hacl : ac.length + 1 ≤ 1000000000 := by
                      rw [← hac, List.length_append]
                      have := List.length_take_le i rkids
                      omega
                    obtain ⟨A', c1, w', hrun, ht6, hS6, hbe, hgr, hat⟩ := SAt.app2 74 (c2 := 1) hacc2 hSA hu (by omega) hacl
                    have HRUN := Lib.hid hrun
                    have HA2 := Lib.hid (show acc ++ rkids.take (i + 1) = acc2 by rw [← hacc2, ← hac, List.take_add_one, htg]; simp)
                    have HS6 := Lib.hid hS6
                    have keepJ : ∀ j, w.heap.size + 3 ≤ j → j < wr.heap.size → (Value.slice Ai ac.length ci).ownBlock ≠ some j → w'.heap[j]? = wr.heap[j]? := fun j h1 h2 h3 => (hgr.block j (by simp; omega) (fun e => h3 e.symm)).trans (Below.heap_alloc wr.drew _ j h2)
                    have hbl : Below w.heap.size w w' := hbi.trans ((show Below w.heap.size wr (wr.drew.alloc (.cells #[.int .i64 kx, .string nx, .string vx, .slice Bx qx cx] 76)) from ⟨hbA.os, hbA.tape, hbA.output, hbA.size, fun j hj => hbA.block j (by have := hbi.size; show j < wr.heap.size; omega)⟩).trans (hbe w.heap.size (by omega)))
                    have hz6 : Blk w' (w.heap.size + 1) 76 _ := (hzi.drew.alloc (.cells #[.int .i64 kx, .string nx, .string vx, .slice Bx qx cx] 76)).below (hbe (w.heap.size + 2) (by omega)) (by omega)
                    have hc6 : Blk w' w.heap.size 76 _ := (hci.drew.alloc (.cells #[.int .i64 kx, .string nx, .string vx, .slice Bx qx cx] 76)).below (hbe (w.heap.size + 2) (by omega)) (by omega)
                    have hp6 : Blk w' w3.heap.size 76 #[.int .i64 rk, .string rn, .string rv, .slice (some ⟨g, og, none⟩) rm rc] := (keepJ w3.heap.size (by omega) hpl (fun e => by have := hrow _ e; omega)).trans hpi
                    have hk6 : KidsAt w' (fun j => wo.heap.size ≤ j ∧ j < w3.heap.size) dd (some ⟨g, og, none⟩) rm rkids := hki.keep fun j hj => keepJ j (by have := hj.1; omega) (by have := hj.2; omega) (fun e => by have := hrow _ e; have := hj.1; have := hj.2; omega)
                    have hg6 : w'.heap[g]? = wr.heap[g]? := keepJ g (by have := hXg.1; omega) hgl (fun e => by have := hrow _ e; have := hXg.1; have := hXg.2; omega)
                    obtain ⟨r0, r1, r2, r3, x0, x1, x2, x3⟩ := blkz ht6
                    have hqne : w3.heap.size ≠ w.heap.size + 1 + 1 := by omega
                    have hgne : g ≠ w.heap.size + 1 + 1 := by have := hXg.1; omega
                    have HPB := Lib.hid (hp6.far (p := ⟨w.heap.size + 1 + 1, 3, none⟩) hqne (.slice A' acc2.length c1))
                    have HKB := Lib.hid (show KidsAt (w'.setCell ⟨w.heap.size + 1 + 1, 3, none⟩ (.slice A' acc2.length c1)) (fun j => wo.heap.size ≤ j ∧ j < w3.heap.size) dd (some ⟨g, og, none⟩) rm rkids from hk6.keep fun j hj => Below.heap_setCell _ _ _ _ (by have := hj.1; show j ≠ w.heap.size + 1 + 1; omega))
                    have HZB := Lib.hid (hz6.far (p := ⟨w.heap.size + 1 + 1, 3, none⟩) (by simp) (.slice A' acc2.length c1))
                    have HCB := Lib.hid (hc6.far (p := ⟨w.heap.size + 1 + 1, 3, none⟩) (by simp; try omega) (.slice A' acc2.length c1))
                    have HBL := Lib.hid (hbl.setCell (p := ⟨w.heap.size + 1 + 1, 3, none⟩) (by simp; omega) (.slice A' acc2.length c1))
                    have HRW := Lib.hid (show ∀ j, (Value.slice A' acc2.length c1).ownBlock = some j → j < wo.heap.size ∨ w3.heap.size < j from fun j hj => by
                      rcases hat with e | e
                      · rw [e] at hj; exact hrow j hj
                      · rw [e] at hj
                        injection hj with hj
                        simp at hj
                        omega)
                    have HSA := Lib.hid (show (fun W => W.cell? ⟨w3.heap.size, 3, none⟩ = some (.slice (some ⟨g, og, none⟩) rm rc) ∧ W.cell? ⟨g, og + i * 4, none⟩ = some (.int .i64 kx) ∧ W.cell? ⟨g, og + i * 4 + 1, none⟩ = some (.string nx) ∧ W.cell? ⟨g, og + i * 4 + 2, none⟩ = some (.string vx) ∧ W.cell? ⟨g, og + i * 4 + 3, none⟩ = some (.slice Bx qx cx)) (wr.drew.alloc (.cells #[.int .i64 kx, .string nx, .string vx, .slice Bx qx cx] 76)) from ⟨(World.cell?_of_block (a := ⟨w3.heap.size, 3, none⟩) (Below.heap_alloc wr.drew _ w3.heap.size hpl)).trans u3, (World.cell?_of_block (a := ⟨g, og + i * 4, none⟩) (Below.heap_alloc wr.drew _ g hgl)).trans f0, (World.cell?_of_block (a := ⟨g, og + i * 4 + 1, none⟩) (Below.heap_alloc wr.drew _ g hgl)).trans f1, (World.cell?_of_block (a := ⟨g, og + i * 4 + 2, none⟩) (Below.heap_alloc wr.drew _ g hgl)).trans f2, (World.cell?_of_block (a := ⟨g, og + i * 4 + 3, none⟩) (Below.heap_alloc wr.drew _ g hgl)).trans f3⟩)
                    have HSB := Lib.hid (show (fun W => W.cell? ⟨w3.heap.size, 3, none⟩ = some (.slice (some ⟨g, og, none⟩) rm rc) ∧ W.cell? ⟨g, og + i * 4, none⟩ = some (.int .i64 kx) ∧ W.cell? ⟨g, og + i * 4 + 1, none⟩ = some (.string nx) ∧ W.cell? ⟨g, og + i * 4 + 2, none⟩ = some (.string vx) ∧ W.cell? ⟨g, og + i * 4 + 3, none⟩ = some (.slice Bx qx cx)) w' from ⟨hp6.cell 3, (World.cell?_of_block (a := ⟨g, og + i * 4, none⟩) hg6).trans f0, (World.cell?_of_block (a := ⟨g, og + i * 4 + 1, none⟩) hg6).trans f1, (World.cell?_of_block (a := ⟨g, og + i * 4 + 2, none⟩) hg6).trans f2, (World.cell?_of_block (a := ⟨g, og + i * 4 + 3, none⟩) hg6).trans f3⟩)
                    have hg7 : (w'.setCell ⟨w.heap.size + 1 + 1, 3, none⟩ (.slice A' acc2.length c1)).heap[g]? = wr.heap[g]? := (Below.heap_setCell _ _ _ _ hgne).trans hg6
                    have HSC := Lib.hid (show (fun W => W.cell? ⟨w3.heap.size, 3, none⟩ = some (.slice (some ⟨g, og, none⟩) rm rc) ∧ W.cell? ⟨g, og + i * 4, none⟩ = some (.int .i64 kx) ∧ W.cell? ⟨g, og + i * 4 + 1, none⟩ = some (.string nx) ∧ W.cell? ⟨g, og + i * 4 + 2, none⟩ = some (.string vx) ∧ W.cell? ⟨g, og + i * 4 + 3, none⟩ = some (.slice Bx qx cx)) (w'.setCell ⟨w.heap.size + 1 + 1, 3, none⟩ (.slice A' acc2.length c1)) from ⟨HPB.out.cell 3, (World.cell?_of_block (a := ⟨g, og + i * 4, none⟩) hg7).trans f0, (World.cell?_of_block (a := ⟨g, og + i * 4 + 1, none⟩) hg7).trans f1, (World.cell?_of_block (a := ⟨g, og + i * 4 + 2, none⟩) hg7).trans f2, (World.cell?_of_block (a := ⟨g, og + i * 4 + 3, none⟩) hg7).trans f3⟩)
                    clear hpi hki hzi hci hbi hrow htc htg hu hSA hSi hrun hS6 ht6 hbe hgr hat keepJ hbl hz6 hc6 hp6 hk6 hg6 hg7 hac hacc2 hbA
                    go_wp2_with fail
                    refine wp_region_held_drew (S := fun W => W.cell? ⟨w3.heap.size, 3, none⟩ = some (.slice (some ⟨g, og, none⟩) rm rc) ∧ W.cell? ⟨g, og + i * 4, none⟩ = some (.int .i64 kx) ∧ W.cell? ⟨g, og + i * 4 + 1, none⟩ = some (.string nx) ∧ W.cell? ⟨g, og + i * 4 + 2, none⟩ = some (.string vx) ∧ W.cell? ⟨g, og + i * 4 + 3, none⟩ = some (.slice Bx qx cx)) mixed ⟨u3, f0, f1, f2, f3⟩ (fun hS => ?_)
                    clear f0 f1 f2 f3 u0 u1 u2 u3
                    refine wpAnyH_take (i := 0) (v := .pointer (some ⟨w.heap.size + 1 + 1, 3, none⟩)) rfl (by kernel_rfl) (by kernel_rfl) (by kernel_rfl) (fun _ _ _ h => h) (Or.inl ⟨by rfl, fun W hW => by obtain ⟨h0, h1, h2, h3, h4⟩ := hW; go_simp⟩) hS ?_
                    refine wpAnyH_take (i := 2) (v := .pointer (some ⟨w3.heap.size, 3, none⟩)) rfl (by kernel_rfl) (by kernel_rfl) (by kernel_rfl) (fun _ _ _ h => h) (Or.inl ⟨by rfl, fun W hW => by obtain ⟨h0, h1, h2, h3, h4⟩ := hW; go_simp⟩) hS ?_
                    refine wpAnyH_take (i := 3) (v := .slice (some ⟨g, og, none⟩) rm rc) rfl (by kernel_rfl) (by kernel_rfl) (by kernel_rfl) (fun _ _ _ h => h) (Or.inl ⟨by rfl, fun W hW => by obtain ⟨h0, h1, h2, h3, h4⟩ := hW; go_simp⟩) hS ?_
                    refine wpAnyH_take (i := 4) (v := .int .i64 i) rfl (by kernel_rfl) (by kernel_rfl) (by kernel_rfl) (fun _ _ _ h => h) (Or.inl ⟨by rfl, fun W hW => by obtain ⟨h0, h1, h2, h3, h4⟩ := hW; go_simp⟩) hS ?_
                    refine wpAnyH_take (i := 5) (v := .pointer (some ⟨g, og + i * 4, none⟩)) rfl (by kernel_rfl) (by kernel_rfl) (by kernel_rfl) (fun _ _ _ h => h) (Or.inl ⟨by rfl, fun W hW => by obtain ⟨h0, h1, h2, h3, h4⟩ := hW; go_simp⟩) hS ?_
                    refine wpAnyH_take (i := 6) (v := .agg #[.int .i64 kx, .string nx, .string vx, .slice Bx qx cx]) rfl (by kernel_rfl) (by kernel_rfl) (by kernel_rfl) (fun _ _ _ h => h) (Or.inl ⟨by rfl, fun W hW => by obtain ⟨h0, h1, h2, h3, h4⟩ := hW; go_simp⟩) hS ?_
                    refine wpAnyH_ready (rs := [1, 7]) (by kernel_rfl) (by simp) ?_
                    refine AllReadyH.cons rfl (fun K hK => ?_) (AllReadyH.cons rfl (fun K hK => ?_) AllReadyH.nil)
                    · skip
                      go_simp
                      refine hK.out _ _ hS (fun hS => ?_)
                      clear hK K
                      refine wpAnyH_ready (rs := [7]) (by kernel_rfl) (by simp) ?_
                      refine AllReadyH.cons rfl (fun K hK => ?_) AllReadyH.nil
                      go_simp
                      refine hK.out _ _ HSA.out (fun hS => ?_)
                      clear hK K
                      refine wpAnyH_ready (rs := [8]) (by kernel_rfl) (by simp) ?_
                      refine AllReadyH.cons rfl (fun K hK => ?_) AllReadyH.nil
                      refine step_append_run rfl (.tmp 65) (.tmp 71) 74 rfl _ _ _ rfl rfl HRUN.out ?_
                      refine hK.out _ _ HSB.out (fun hS => ?_)
                      clear hK K
                      refine wpAnyH_ready (rs := [9]) (by kernel_rfl) (by simp) ?_
                      refine AllReadyH.cons rfl (fun K hK => ?_) AllReadyH.nil
                      go_simp
                      refine hK.out _ _ hS (fun hS => ?_)
                      clear hK K
                      refine wpAnyH_ready (rs := [10]) (by kernel_rfl) (by simp) ?_
                      refine AllReadyH.cons rfl (fun K hK => ?_) AllReadyH.nil
                      go_simp
                      refine hK.out _ _ HSC.out (fun hS => ?_)
                      clear hK K
                      refine wpAnyH_done (by kernel_rfl) ?_ _
                      go_wp2
                      go_roundw
                      case rel => exact ⟨i + 1, A', c1, acc2, by omega, by go_num, HA2.out, HS6.out, HPB.out, HKB.out, HZB.out, HCB.out, HBL.out, HRW.out⟩
                      case measure => simp [intOf]; omega
                    · skip
                      go_simp
                      refine hK.out _ _ HSA.out (fun hS => ?_)
                      clear hK K
                      refine wpAnyH_ready (rs := [1]) (by kernel_rfl) (by simp) ?_
                      refine AllReadyH.cons rfl (fun K hK => ?_) AllReadyH.nil
                      go_simp
                      refine hK.out _ _ hS (fun hS => ?_)
                      clear hK K
                      refine wpAnyH_ready (rs := [8]) (by kernel_rfl) (by simp) ?_
                      refine AllReadyH.cons rfl (fun K hK => ?_) AllReadyH.nil
                      refine step_append_run rfl (.tmp 65) (.tmp 71) 74 rfl _ _ _ rfl rfl HRUN.out ?_
                      refine hK.out _ _ HSB.out (fun hS => ?_)
                      clear hK K
                      refine wpAnyH_ready (rs := [9]) (by kernel_rfl) (by simp) ?_
                      refine AllReadyH.cons rfl (fun K hK => ?_) AllReadyH.nil
                      go_simp
                      refine hK.out _ _ hS (fun hS => ?_)
                      clear hK K
                      refine wpAnyH_ready (rs := [10]) (by kernel_rfl) (by simp) ?_
                      refine AllReadyH.cons rfl (fun K hK => ?_) AllReadyH.nil
                      go_simp
                      refine hK.out _ _ HSC.out (fun hS => ?_)
                      clear hK K
                      refine wpAnyH_done (by kernel_rfl) ?_ _
                      go_wp2
                      go_roundw
                      case rel => exact ⟨i + 1, A', c1, acc2, by omega, by go_num, HA2.out, HS6.out, HPB.out, HKB.out, HZB.out, HCB.out, HBL.out, HRW.out⟩
                      case measure => simp [intOf]; omega
                  · obtain rfl : i = rm := by omega
                    have HA3 := Lib.hid (show acc ++ rkids = ac by rw [← hac, List.take_of_length_le (by omega)])
                    have HSi := Lib.hid hSi
                    have HZi := Lib.hid hzi
                    have HCi := Lib.hid hci
                    clear hSi hpi hki hzi hci hrow hac
                    go_wp2
                    go_roundw
                    case rel => exact ⟨j + 1, Ai, ci, ac, by omega, by go_num, by rw [HSN.out, ← HACC.out, HA3.out], HSi.out, HZi.out, HCi.out, hbi⟩
                    case measure => simp [intOf]; omega
            · obtain rfl : j = m := by omega
              rw [List.take_of_length_le (by rw [hk.1]; omega)] at hacc
              obtain ⟨d0, cells0, ho0, hr0⟩ := hS.row
              obtain ⟨p0, p1, p2, p3, _⟩ := blkz hS.top
              obtain ⟨z0, z1, z2, z3, y0, y1, y2, y3⟩ := blkz hz
              have HN := Lib.hid (cond_node (k := 4) (n := n) (v := v) ho0 (hr0.mono (Y := fun j => w.heap.size + 3 ≤ j ∧ j < wr.heap.size) fun j hj => ⟨hj.1, hj.2.1⟩) (fun b hb => ho0.lt b hb) hn hv)
              have HACC := Lib.hid hacc
              clear ho0 hr0 hS hz hk hacc ha hcb
              go_wp2_with fail
              refine bodyPost_ret (v := .agg #[.int .i64 4, .string n, .string v, .slice Ao acc.length cap]) (by simp [results, Try.results50, go_sem, *]) rfl ?_
              rw [HR.out, ← HACC.out]
              refine ⟨_, n, v, Ao, acc.length, cap, d0 + 1, rfl, ?_, set4_below hb (by omega)⟩
              refine (HN.out.keep fun j hj => set4_far _ _ _ _ _ _ j (by omega)).mono fun j hj => ⟨by omega, by rw [set4_size]; exact hj.2⟩
end Go.Proofs.Ytfgblmdmhgllgaa
