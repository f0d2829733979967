/- cond.opposite, cond.simple, cond.Simple. -/
import Derived.Test.YtfgblmdmhgllgaaCs
namespace Go.Proofs.Ytfgblmdmhgllgaa
open Go.RowKit Go.Maps

theorem ret_intC {k : IntKind} {a b : Int} (h : a = b) : Ending.returned (.int k a) = .returned (.int k b) := by rw [h]
theorem copp_any (k : Int) (w : World) : Calls Try.prog 125 #[.int .i64 k] w fun e w' => e = .returned (.int .i64 (opp k)) ∧ w = w' := by
  go_enter Try.func125, Try.ntmps125
  go_wp2
  all_goals go_ret
  all_goals (refine ⟨ret_intC ?_, rfl⟩)
  all_goals (simp only [beq_iff_eq, beq_eq_false_iff_ne, ne_eq] at *)
  all_goals simp_all [opp]
theorem blkz {w : World} {g : Nat} {t : TypeId} {a b c d : Value} (h : Blk w g t #[a, b, c, d]) : w.cell? ⟨g, 0, none⟩ = some a ∧ w.cell? ⟨g, 1, none⟩ = some b ∧ w.cell? ⟨g, 2, none⟩ = some c ∧ w.cell? ⟨g, 3, none⟩ = some d ∧ w.frozen? ⟨g, 0, none⟩ = false ∧ w.frozen? ⟨g, 1, none⟩ = false ∧ w.frozen? ⟨g, 2, none⟩ = false ∧ w.frozen? ⟨g, 3, none⟩ = false :=
  ⟨h.cell 0, h.cell 1, h.cell 2, h.cell 3, h.frozen 0, h.frozen 1, h.frozen 2, h.frozen 3⟩
theorem set4_far (w : World) (g : Nat) (a b c d : Value) (j : Nat) (hj : j ≠ g) : ((((w.setCell ⟨g, 0, none⟩ a).setCell ⟨g, 1, none⟩ b).setCell ⟨g, 2, none⟩ c).setCell ⟨g, 3, none⟩ d).heap[j]? = w.heap[j]? := by
  rw [Below.heap_setCell _ _ _ _ hj, Below.heap_setCell _ _ _ _ hj, Below.heap_setCell _ _ _ _ hj, Below.heap_setCell _ _ _ _ hj]
theorem set4_size (w : World) (g : Nat) (a b c d : Value) : ((((w.setCell ⟨g, 0, none⟩ a).setCell ⟨g, 1, none⟩ b).setCell ⟨g, 2, none⟩ c).setCell ⟨g, 3, none⟩ d).heap.size = w.heap.size := by simp [World.setCell]
theorem set4_below {w0 w : World} {B g : Nat} {a b c d : Value} (h : Below B w0 w) (hg : B ≤ g) : Below B w0 ((((w.setCell ⟨g, 0, none⟩ a).setCell ⟨g, 1, none⟩ b).setCell ⟨g, 2, none⟩ c).setCell ⟨g, 3, none⟩ d) :=
  (((h.setCell hg _).setCell hg _).setCell hg _).setCell hg _
/-- Blocks that are new. -/
def New (w w' : World) (j : Nat) : Prop := w.heap.size ≤ j ∧ j < w'.heap.size
def SPost (w : World) (r : CT) (e : Ending) (w' : World) : Prop := ∃ (k : Int) (n v : ByteArray) (A : Option Addr) (m c D : Nat), e = .returned (.agg #[.int .i64 k, .string n, .string v, .slice A m c]) ∧ CondAt w' (New w w') D r [.int .i64 k, .string n, .string v, .slice A m c] ∧ Below w.heap.size w w'
set_option maxHeartbeats 1000000 in
set_option maxRecDepth 100000 in
theorem csimple_any : ∀ (f D : Nat) (t : CT) (no : Bool) (v0 v1 v2 v3 : Value) (w : World), CondAt w (· < w.heap.size) D t [v0, v1, v2, v3] → rightT f t = true → (namesT t).length ≤ 1000000000 →
    Calls Try.prog 97 #[.agg #[v0, v1, v2, v3], .bool no] w (SPost w (simpT no t)) := by
  intro f
  induction f with
  | zero => intro D t no v0 v1 v2 v3 w _ h; cases h
  | succ f ih =>
    intro D t no v0 v1 v2 v3 w ht hr hnl
    obtain ⟨d, k, n, v, kids, A, m, c, rfl, rfl, hcs, hn, hv, hm, hmc, hk⟩ := ht.form
    simp only [List.cons.injEq, and_true] at hcs
    obtain ⟨rfl, rfl, rfl, rfl⟩ := hcs
    obtain ⟨ha, hrk⟩ := right_kids hr
    rw [hk.1] at ha
    have IH := Lib.hid ih
    clear ih ht hr
    unfold maxLen at hm
    by_cases h3 : k = 3
    · subst h3
      have hm1 : m = 1 := by rcases alone_cases ha with h | h | h <;> omega
      subst hm1
      obtain ⟨b, o, t, k', n', v', B, q, c', rfl, hX, htj, e0, e1, e2, e3, ht⟩ := hk.kid (i := 0) (by omega)
      rw [Nat.zero_mul, Nat.add_zero] at e0 e1 e2 e3
      have hkids : kids = [t] := by
        have := hk.1
        match kids, this, htj with
        | [x], _, h => simp at h; rw [h]
      have hN : (namesT t).length ≤ 1000000000 := by rw [hkids, namesT, List.length_append, namesK] at hnl; simp [namesK] at hnl; omega
      have HR := Lib.hid (show simpT no (.mk 3 n v kids) = simpT (!no) t by rw [simpT, if_pos rfl, hkids, simpF])
      have hbw := ((Below.refl _ w).alloc (Nat.le_refl _) (.cells #[.int .i64 3, .string n, .string v, .slice (some ⟨b, o, none⟩) 1 c] 76)).alloc (by simp) (.cells #[.int .i64 0, .string ⟨#[]⟩, .string ⟨#[]⟩, .slice none 0 0] 76)
      have hz0 : Blk ((w.alloc (.cells #[.int .i64 3, .string n, .string v, .slice (some ⟨b, o, none⟩) 1 c] 76)).alloc (.cells #[.int .i64 0, .string ⟨#[]⟩, .string ⟨#[]⟩, .slice none 0 0] 76)) (w.heap.size + 1) 76 #[.int .i64 0, .string ⟨#[]⟩, .string ⟨#[]⟩, .slice none 0 0] := by simpa using Blk.new (w.alloc (.cells #[.int .i64 3, .string n, .string v, .slice (some ⟨b, o, none⟩) 1 c] 76)) 76 _
      have HC := Lib.hid (IH.out d t (!no) _ _ _ _ _ (ht.below hbw) (hrk t (List.mem_of_getElem? htj)) hN)
      clear ht htj hk hrk hkids hnl ha
      go_enter Try.func97, Try.ntmps97
      go_wp2_with fail
      refine HC.out.mono ?_
      rintro e w1 ⟨rk, rn, rv, rA, rm, rc, rD, rfl, hc, hb1⟩
      obtain ⟨z0, z1, z2, z3, y0, y1, y2, y3⟩ := blkz (hz0.below hb1 (by simp))
      have hz1 := hb1.size
      have HC1 := Lib.hid hc
      clear hz0 hc
      go_wp2
      refine bodyPost_ret (v := .agg #[.int .i64 rk, .string rn, .string rv, .slice rA rm rc]) (by simp [results, Try.results97, go_sem, *]) rfl ?_
      rw [HR.out]
      refine ⟨rk, rn, rv, rA, rm, rc, rD, rfl, ?_, set4_below (hbw.trans (hb1.mono (by simp; omega))) (by omega)⟩
      refine (HC1.out.keep fun j hj => set4_far _ _ _ _ _ _ j ?_).mono fun j hj => ⟨?_, ?_⟩
      · have := hj.1; simp at this; omega
      · have := hj.1; simp at this; omega
      · rw [set4_size]; exact hj.2
    · -- of other kinds
      have k3 : (k == 3) = false := by simpa using h3
      have hR : simpT no (.mk k n v kids) = .mk (if no then opp k else k) n v (simpK no (if no then opp k else k) kids) := by rw [simpT, if_neg h3]
      have HR := Lib.hid hR
      have hop := copp_any k
      have hkk := fun hc : k = 4 ∨ k = 5 => opp_and no hc
      have hnl2 : (namesK kids).length ≤ 1000000000 := by rw [namesT, List.length_append] at hnl; omega
      clear hR hnl
      cases no
      · skip
        have hwk : (if (false : Bool) then opp k else k) = k := rfl
        rw [hwk] at HR hkk
        have hbw := (((Below.refl _ w).alloc (Nat.le_refl _) (.cells #[.int .i64 k, .string n, .string v, .slice A m c] 76)).alloc (by simp) (.cells #[.int .i64 0, .string ⟨#[]⟩, .string ⟨#[]⟩, .slice none 0 0] 76)).alloc (by simp; omega) (.cells #[.int .i64 k, .string n, .string v, .slice none 0 0] 76)
        have hz0 : Blk (((w.alloc (.cells #[.int .i64 k, .string n, .string v, .slice A m c] 76)).alloc (.cells #[.int .i64 0, .string ⟨#[]⟩, .string ⟨#[]⟩, .slice none 0 0] 76)).alloc (.cells #[.int .i64 k, .string n, .string v, .slice none 0 0] 76)) (w.heap.size + 1) 76 #[.int .i64 0, .string ⟨#[]⟩, .string ⟨#[]⟩, .slice none 0 0] := by simpa using (Blk.new (w.alloc (.cells #[.int .i64 k, .string n, .string v, .slice A m c] 76)) 76 #[.int .i64 0, .string ⟨#[]⟩, .string ⟨#[]⟩, .slice none 0 0]).alloc (.cells #[.int .i64 k, .string n, .string v, .slice none 0 0] 76)
        have hs0 : SAt (w.heap.size + 3) (w.heap.size + 1 + 1) k n v none 0 [] (((w.alloc (.cells #[.int .i64 k, .string n, .string v, .slice A m c] 76)).alloc (.cells #[.int .i64 0, .string ⟨#[]⟩, .string ⟨#[]⟩, .slice none 0 0] 76)).alloc (.cells #[.int .i64 k, .string n, .string v, .slice none 0 0] 76)) :=
          ⟨by simpa using Blk.new ((w.alloc (.cells #[.int .i64 k, .string n, .string v, .slice A m c] 76)).alloc (.cells #[.int .i64 0, .string ⟨#[]⟩, .string ⟨#[]⟩, .slice none 0 0] 76)) 76 #[.int .i64 k, .string n, .string v, .slice none 0 0], ⟨by omega, by simp⟩, 0, [], World.ownsRow_nil _ _ _ _, RowC.nil _ _ _⟩
        go_enter Try.func97, Try.ntmps97
        go_wp2_with ((with_reducible refine (hop _).mono ?_); rintro e w1 ⟨rfl, rfl⟩)
        go_loopw [34] (fun i wr => ∃ (j : Nat) (Ao : Option Addr) (cap : Nat) (acc : List CT), j ≤ m ∧ i = .int .i64 j ∧ acc = simpK false k (kids.take j) ∧ SAt (w.heap.size + 3) (w.heap.size + 1 + 1) k n v Ao cap acc wr ∧ Blk wr (w.heap.size + 1) 76 #[.int .i64 0, .string ⟨#[]⟩, .string ⟨#[]⟩, .slice none 0 0] ∧ Below w.heap.size w wr) (fun i _ => m - (intOf i).toNat)
        case atStart => exact ⟨0, none, 0, [], Nat.zero_le _, rfl, rfl, hs0, hz0, hbw⟩
        case round =>
          clear hs0 hz0 hbw
          obtain ⟨j, Ao, cap, acc, hj, rfl, hacc, hS, hz, hb⟩ := hrel
          have hlow := hS.low
          by_cases hlt : j < m
          · have hlt' : (j : Int) < (m : Int) := by omega
            have hj0 : (0 : Int) ≤ (j : Int) := by omega
            obtain ⟨h45, _⟩ : (k = 4 ∨ k = 5) ∧ (k = 4 ∨ k = 5) := by rcases alone_cases ha with h | h | h <;> first | omega | exact ⟨hkk h.1, h.1⟩
            obtain ⟨b, o, t, k', n', v', B, q, c', rfl, hX, htj, e0, e1, e2, e3, ht⟩ := hk.kid hlt
            have hrt := hrk t (List.mem_of_getElem? htj)
            have hsn := simpK_snoc (no := false) (k := k) htj
            have hnk := simpK_names h45 false (kids.take (j + 1)) fun x hx => hrk x (List.mem_of_mem_take hx)
            have hnk2 := namesK_take kids (j + 1)
            have hNt : (namesT t).length ≤ 1000000000 := by
              have h1 := namesK_take kids (j + 1)
              rw [namesK_eq, List.take_add_one, htj] at h1
              simp only [List.flatMap_append, Option.toList_some, List.flatMap_cons, List.flatMap_nil, List.append_nil, List.length_append] at h1
              omega
            rw [hsn, ← hacc, List.length_append] at hnk
            replace e0 := (hb.cell (p := ⟨b, o + j * 4, none⟩) hX).trans e0
            replace e1 := (hb.cell (p := ⟨b, o + j * 4 + 1, none⟩) hX).trans e1
            replace e2 := (hb.cell (p := ⟨b, o + j * 4 + 2, none⟩) hX).trans e2
            replace e3 := (hb.cell (p := ⟨b, o + j * 4 + 3, none⟩) hX).trans e3
            have hbz := hb.alloc hb.size (.cells #[.int .i64 k', .string n', .string v', .slice B q c'] 76)
            have HC := Lib.hid (IH.out d t false _ _ _ _ _ (ht.below hbz) hrt hNt)
            have HS := Lib.hid hS
            have HZ := Lib.hid hz
            have HSN := Lib.hid hsn
            have HACC := Lib.hid hacc
            have HRT := Lib.hid (simp_right f false t hrt)
            clear ht htj hk hrk hsn hS hz hacc hrt
            go_wp2_with fail
            refine HC.out.mono ?_
            rintro e w3 ⟨rk, rn, rv, rA, rm, rc, rD, rfl, hc, hb1⟩
            have hb1' : Below wr.heap.size wr w3 := ((Below.refl _ wr).alloc (Nat.le_refl _) _).trans (hb1.mono (by simp))
            have hw3 := hb1.size
            simp only [World.size_alloc] at hw3
            have hb4 : Below wr.heap.size wr (w3.alloc (.cells #[.int .i64 rk, .string rn, .string rv, .slice rA rm rc] 76)) := hb1'.alloc hb1'.size _
            have hS4 := HS.out.up hb4
            have hown4 : ∀ j, (Value.slice Ao acc.length cap).ownBlock = some j → j < wr.heap.size := fun j hj => by
              obtain ⟨d0, cells0, ho0, _⟩ := HS.out.row
              exact (ho0.lt j hj).2
            have hc4 : CondAt (w3.alloc (.cells #[.int .i64 rk, .string rn, .string rv, .slice rA rm rc] 76)) (fun j => w.heap.size + 3 ≤ j ∧ j < (w3.alloc (.cells #[.int .i64 rk, .string rn, .string rv, .slice rA rm rc] 76)).heap.size ∧ (Value.slice Ao acc.length cap).ownBlock ≠ some j) rD (simpT false t) [.int .i64 rk, .string rn, .string rv, .slice rA rm rc] :=
              (hc.keep fun j hj => Below.heap_alloc _ _ _ hj.2).mono fun j hj => by
                have h1 := hj.1
                have h2 := hj.2
                simp only [World.size_alloc] at h1 ⊢
                exact ⟨by omega, by omega, fun e => by have := hown4 j e; omega⟩
            obtain ⟨p0, p1, p2, p3, y0, y1, y2, y3⟩ := blkz hS4.top
            cases hkr : (rk == k)
            · -- one more
              have hfl : flat k (simpT false t) = [simpT false t] := by
                obtain ⟨_, k1, _, _, _, _, _, _, _, hx, hcs, _⟩ := hc.form
                simp only [List.cons.injEq, Value.int.injEq, true_and] at hcs
                unfold flat
                rw [if_neg]
                rw [hx]
                show k1 ≠ k
                rw [← hcs.1]
                simpa using hkr
              rw [hfl] at HSN hnk
              have hS5 := hS4.up ((Below.refl _ (w3.alloc (.cells #[.int .i64 rk, .string rn, .string rv, .slice rA rm rc] 76))).alloc (Nat.le_refl _) (.cells #[.int .i64 rk, .string rn, .string rv, .slice rA rm rc] 76))
              have hu : KidsAt ((w3.alloc (.cells #[.int .i64 rk, .string rn, .string rv, .slice rA rm rc] 76)).alloc (.cells #[.int .i64 rk, .string rn, .string rv, .slice rA rm rc] 76)) (fun j => w.heap.size + 3 ≤ j ∧ j < ((w3.alloc (.cells #[.int .i64 rk, .string rn, .string rv, .slice rA rm rc] 76)).alloc (.cells #[.int .i64 rk, .string rn, .string rv, .slice rA rm rc] 76)).heap.size ∧ (Value.slice Ao acc.length cap).ownBlock ≠ some j) rD (some ⟨w3.heap.size + 1, 0, none⟩) 1 [simpT false t] := by
                refine one_kid (v0 := .int .i64 rk) (v1 := .string rn) (v2 := .string rv) (v3 := .slice rA rm rc) ?_ ⟨by omega, by simp, fun e => by have := hown4 _ e; omega⟩ ?_
                · simpa using Blk.new (w3.alloc (.cells #[.int .i64 rk, .string rn, .string rv, .slice rA rm rc] 76)) 76 #[.int .i64 rk, .string rn, .string rv, .slice rA rm rc]
                · exact (hc4.keep fun j hj => Below.heap_alloc _ _ _ hj.2.1).mono fun j hj => ⟨hj.1, by have := hj.2.1; simp only [World.size_alloc] at this ⊢; omega, hj.2.2⟩
              obtain ⟨acc2, hacc2⟩ : ∃ l, acc ++ [simpT false t] = l := ⟨_, rfl⟩
              obtain ⟨A', c1, w', hrun, ht6, hS6, hbe⟩ := SAt.app 74 (c2 := 1) hacc2 hS5 hu (by omega) (by simp at hnk; omega)
              have HRUN := Lib.hid hrun
              have HA2 := Lib.hid hacc2
              have HS6 := Lib.hid hS6
              have hbl : Below w.heap.size w w' := (hb.trans (hb4.mono hb.size)).trans (((Below.refl _ _).alloc (by have := hb4.size; have := hb.size; omega) _).trans (hbe w.heap.size (by omega)))
              have hz6 : Blk w' (w.heap.size + 1) 76 _ := ((HZ.out.below hb4 HZ.out.lt).alloc (.cells #[.int .i64 rk, .string rn, .string rv, .slice rA rm rc] 76)).below (hbe (w.heap.size + 2) (by omega)) (by omega)
              obtain ⟨r0, r1, r2, r3, x0, x1, x2, x3⟩ := blkz ht6
              have HZ6 := Lib.hid hz6
              clear hacc2 hc hc4 hu hS5 hS4 hrun hS6 ht6 hz6 hfl hb1 hb1' hbe
              go_wp2_with (at_builtin; refine wpList_append_run rfl (.tmp 53) (.tmp 55) 74 rfl _ _ _ rfl rfl HRUN.out ?_)
              go_roundw
              case rel => exact ⟨j + 1, _, _, acc2, by omega, by go_num, by rw [HSN.out, ← HACC.out, HA2.out], HS6.out, HZ6.out.far (by simp) _, hbl.setCell (by simp; omega) _⟩
              case measure => simp [intOf]; omega
            · -- its kids
              obtain ⟨dd, k1, n1, v1, rkids, A1, m1, c1, hD1, hx, hcs, _, _, _, _, hkk1⟩ := hc4.form
              simp only [List.cons.injEq, Value.int.injEq, Value.slice.injEq, true_and, and_true] at hcs
              obtain ⟨hcs1, _, _, hcs2, hcs3, hcs4⟩ := hcs
              have hrk : rk = k := by simpa using hkr
              have hfl : flat k (simpT false t) = rkids := by
                unfold flat
                rw [if_pos]
                · rw [hx]; rfl
                · rw [hx]; show k1 = k; rw [← hcs1, hrk]
              rw [hfl] at HSN hnk
              rw [← hcs2, ← hcs3] at hkk1
              have hrm : 0 < rm := by
                have h1 := HRT.out
                rw [hx] at h1
                match f, h1 with
                | f + 1, h1 =>
                  have h2 := alone_cases (right_kids h1).1
                  rw [hkk1.1] at h2
                  omega
              obtain ⟨acc2, hacc2⟩ : ∃ l, acc ++ rkids = l := ⟨_, rfl⟩
              obtain ⟨A', c9, w', hrun, ht6, hS6, hbe⟩ := SAt.app 74 (c2 := rc) hacc2 hS4 hkk1 hrm (by have := hkk1.1; omega)
              have HRUN := Lib.hid hrun
              have HA2 := Lib.hid hacc2
              have HS6 := Lib.hid hS6
              have hbl : Below w.heap.size w w' := (hb.trans (hb4.mono hb.size)).trans (hbe w.heap.size (by omega))
              have hz6 : Blk w' (w.heap.size + 1) 76 _ := (HZ.out.below hb4 HZ.out.lt).below (hbe (w.heap.size + 2) (by omega)) (by omega)
              obtain ⟨r0, r1, r2, r3, x0, x1, x2, x3⟩ := blkz ht6
              have HZ6 := Lib.hid hz6
              clear hacc2 hc hc4 hkk1 hS4 hrun hS6 ht6 hz6 hfl hb1 hb1' hbe hx hcs1 hcs2 hcs3 hcs4 hrk hD1
              go_wp2_with (at_builtin; refine wpList_append_run rfl (.tmp 47) (.tmp 49) 74 rfl _ _ _ rfl rfl HRUN.out ?_)
              go_roundw
              case rel => exact ⟨j + 1, _, _, acc2, by omega, by go_num, by rw [HSN.out, ← HACC.out, HA2.out], HS6.out, HZ6.out.far (by simp) _, hbl.setCell (by simp; omega) _⟩
              case measure => simp [intOf]; omega
          · obtain rfl : j = m := by omega
            rw [List.take_of_length_le (by rw [hk.1]; omega)] at hacc
            obtain ⟨d0, cells0, ho0, hr0⟩ := hS.row
            obtain ⟨p0, p1, p2, p3, _⟩ := blkz hS.top
            obtain ⟨z0, z1, z2, z3, y0, y1, y2, y3⟩ := blkz hz
            have HN := Lib.hid (cond_node (k := k) (n := n) (v := v) ho0 (hr0.mono (Y := fun j => w.heap.size + 3 ≤ j ∧ j < wr.heap.size) fun j hj => ⟨hj.1, hj.2.1⟩) (fun b hb => ho0.lt b hb) hn hv)
            have HACC := Lib.hid hacc
            clear ho0 hr0 hS hz hk hacc ha
            go_wp2_with fail
            refine bodyPost_ret (v := .agg #[.int .i64 k, .string n, .string v, .slice Ao acc.length cap]) (by simp [results, Try.results97, go_sem, *]) rfl ?_
            rw [HR.out, ← HACC.out]
            refine ⟨_, n, v, Ao, acc.length, cap, d0 + 1, rfl, ?_, set4_below hb (by omega)⟩
            refine (HN.out.keep fun j hj => set4_far _ _ _ _ _ _ j (by omega)).mono fun j hj => ⟨by omega, by rw [set4_size]; exact hj.2⟩
      · skip
        have hwk : (if (true : Bool) then opp k else k) = (opp k) := rfl
        rw [hwk] at HR hkk
        have hbw := (((Below.refl _ w).alloc (Nat.le_refl _) (.cells #[.int .i64 k, .string n, .string v, .slice A m c] 76)).alloc (by simp) (.cells #[.int .i64 0, .string ⟨#[]⟩, .string ⟨#[]⟩, .slice none 0 0] 76)).alloc (by simp; omega) (.cells #[.int .i64 (opp k), .string n, .string v, .slice none 0 0] 76)
        have hz0 : Blk (((w.alloc (.cells #[.int .i64 k, .string n, .string v, .slice A m c] 76)).alloc (.cells #[.int .i64 0, .string ⟨#[]⟩, .string ⟨#[]⟩, .slice none 0 0] 76)).alloc (.cells #[.int .i64 (opp k), .string n, .string v, .slice none 0 0] 76)) (w.heap.size + 1) 76 #[.int .i64 0, .string ⟨#[]⟩, .string ⟨#[]⟩, .slice none 0 0] := by simpa using (Blk.new (w.alloc (.cells #[.int .i64 k, .string n, .string v, .slice A m c] 76)) 76 #[.int .i64 0, .string ⟨#[]⟩, .string ⟨#[]⟩, .slice none 0 0]).alloc (.cells #[.int .i64 (opp k), .string n, .string v, .slice none 0 0] 76)
        have hs0 : SAt (w.heap.size + 3) (w.heap.size + 1 + 1) (opp k) n v none 0 [] (((w.alloc (.cells #[.int .i64 k, .string n, .string v, .slice A m c] 76)).alloc (.cells #[.int .i64 0, .string ⟨#[]⟩, .string ⟨#[]⟩, .slice none 0 0] 76)).alloc (.cells #[.int .i64 (opp k), .string n, .string v, .slice none 0 0] 76)) :=
          ⟨by simpa using Blk.new ((w.alloc (.cells #[.int .i64 k, .string n, .string v, .slice A m c] 76)).alloc (.cells #[.int .i64 0, .string ⟨#[]⟩, .string ⟨#[]⟩, .slice none 0 0] 76)) 76 #[.int .i64 (opp k), .string n, .string v, .slice none 0 0], ⟨by omega, by simp⟩, 0, [], World.ownsRow_nil _ _ _ _, RowC.nil _ _ _⟩
        go_enter Try.func97, Try.ntmps97
        go_wp2_with ((with_reducible refine (hop _).mono ?_); rintro e w1 ⟨rfl, rfl⟩)
        go_loopw [34] (fun i wr => ∃ (j : Nat) (Ao : Option Addr) (cap : Nat) (acc : List CT), j ≤ m ∧ i = .int .i64 j ∧ acc = simpK true (opp k) (kids.take j) ∧ SAt (w.heap.size + 3) (w.heap.size + 1 + 1) (opp k) n v Ao cap acc wr ∧ Blk wr (w.heap.size + 1) 76 #[.int .i64 0, .string ⟨#[]⟩, .string ⟨#[]⟩, .slice none 0 0] ∧ Below w.heap.size w wr) (fun i _ => m - (intOf i).toNat)
        case atStart => exact ⟨0, none, 0, [], Nat.zero_le _, rfl, rfl, hs0, hz0, hbw⟩
        case round =>
          clear hs0 hz0 hbw
          obtain ⟨j, Ao, cap, acc, hj, rfl, hacc, hS, hz, hb⟩ := hrel
          have hlow := hS.low
          by_cases hlt : j < m
          · have hlt' : (j : Int) < (m : Int) := by omega
            have hj0 : (0 : Int) ≤ (j : Int) := by omega
            obtain ⟨h45, _⟩ : ((opp k) = 4 ∨ (opp k) = 5) ∧ (k = 4 ∨ k = 5) := by rcases alone_cases ha with h | h | h <;> first | omega | exact ⟨hkk h.1, h.1⟩
            obtain ⟨b, o, t, k', n', v', B, q, c', rfl, hX, htj, e0, e1, e2, e3, ht⟩ := hk.kid hlt
            have hrt := hrk t (List.mem_of_getElem? htj)
            have hsn := simpK_snoc (no := true) (k := (opp k)) htj
            have hnk := simpK_names h45 true (kids.take (j + 1)) fun x hx => hrk x (List.mem_of_mem_take hx)
            have hnk2 := namesK_take kids (j + 1)
            have hNt : (namesT t).length ≤ 1000000000 := by
              have h1 := namesK_take kids (j + 1)
              rw [namesK_eq, List.take_add_one, htj] at h1
              simp only [List.flatMap_append, Option.toList_some, List.flatMap_cons, List.flatMap_nil, List.append_nil, List.length_append] at h1
              omega
            rw [hsn, ← hacc, List.length_append] at hnk
            replace e0 := (hb.cell (p := ⟨b, o + j * 4, none⟩) hX).trans e0
            replace e1 := (hb.cell (p := ⟨b, o + j * 4 + 1, none⟩) hX).trans e1
            replace e2 := (hb.cell (p := ⟨b, o + j * 4 + 2, none⟩) hX).trans e2
            replace e3 := (hb.cell (p := ⟨b, o + j * 4 + 3, none⟩) hX).trans e3
            have hbz := hb.alloc hb.size (.cells #[.int .i64 k', .string n', .string v', .slice B q c'] 76)
            have HC := Lib.hid (IH.out d t true _ _ _ _ _ (ht.below hbz) hrt hNt)
            have HS := Lib.hid hS
            have HZ := Lib.hid hz
            have HSN := Lib.hid hsn
            have HACC := Lib.hid hacc
            have HRT := Lib.hid (simp_right f true t hrt)
            clear ht htj hk hrk hsn hS hz hacc hrt
            go_wp2_with fail
            refine HC.out.mono ?_
            rintro e w3 ⟨rk, rn, rv, rA, rm, rc, rD, rfl, hc, hb1⟩
            have hb1' : Below wr.heap.size wr w3 := ((Below.refl _ wr).alloc (Nat.le_refl _) _).trans (hb1.mono (by simp))
            have hw3 := hb1.size
            simp only [World.size_alloc] at hw3
            have hb4 : Below wr.heap.size wr (w3.alloc (.cells #[.int .i64 rk, .string rn, .string rv, .slice rA rm rc] 76)) := hb1'.alloc hb1'.size _
            have hS4 := HS.out.up hb4
            have hown4 : ∀ j, (Value.slice Ao acc.length cap).ownBlock = some j → j < wr.heap.size := fun j hj => by
              obtain ⟨d0, cells0, ho0, _⟩ := HS.out.row
              exact (ho0.lt j hj).2
            have hc4 : CondAt (w3.alloc (.cells #[.int .i64 rk, .string rn, .string rv, .slice rA rm rc] 76)) (fun j => w.heap.size + 3 ≤ j ∧ j < (w3.alloc (.cells #[.int .i64 rk, .string rn, .string rv, .slice rA rm rc] 76)).heap.size ∧ (Value.slice Ao acc.length cap).ownBlock ≠ some j) rD (simpT true t) [.int .i64 rk, .string rn, .string rv, .slice rA rm rc] :=
              (hc.keep fun j hj => Below.heap_alloc _ _ _ hj.2).mono fun j hj => by
                have h1 := hj.1
                have h2 := hj.2
                simp only [World.size_alloc] at h1 ⊢
                exact ⟨by omega, by omega, fun e => by have := hown4 j e; omega⟩
            obtain ⟨p0, p1, p2, p3, y0, y1, y2, y3⟩ := blkz hS4.top
            cases hkr : (rk == (opp k))
            · -- one more
              have hfl : flat (opp k) (simpT true t) = [simpT true t] := by
                obtain ⟨_, k1, _, _, _, _, _, _, _, hx, hcs, _⟩ := hc.form
                simp only [List.cons.injEq, Value.int.injEq, true_and] at hcs
                unfold flat
                rw [if_neg]
                rw [hx]
                show k1 ≠ (opp k)
                rw [← hcs.1]
                simpa using hkr
              rw [hfl] at HSN hnk
              have hS5 := hS4.up ((Below.refl _ (w3.alloc (.cells #[.int .i64 rk, .string rn, .string rv, .slice rA rm rc] 76))).alloc (Nat.le_refl _) (.cells #[.int .i64 rk, .string rn, .string rv, .slice rA rm rc] 76))
              have hu : KidsAt ((w3.alloc (.cells #[.int .i64 rk, .string rn, .string rv, .slice rA rm rc] 76)).alloc (.cells #[.int .i64 rk, .string rn, .string rv, .slice rA rm rc] 76)) (fun j => w.heap.size + 3 ≤ j ∧ j < ((w3.alloc (.cells #[.int .i64 rk, .string rn, .string rv, .slice rA rm rc] 76)).alloc (.cells #[.int .i64 rk, .string rn, .string rv, .slice rA rm rc] 76)).heap.size ∧ (Value.slice Ao acc.length cap).ownBlock ≠ some j) rD (some ⟨w3.heap.size + 1, 0, none⟩) 1 [simpT true t] := by
                refine one_kid (v0 := .int .i64 rk) (v1 := .string rn) (v2 := .string rv) (v3 := .slice rA rm rc) ?_ ⟨by omega, by simp, fun e => by have := hown4 _ e; omega⟩ ?_
                · simpa using Blk.new (w3.alloc (.cells #[.int .i64 rk, .string rn, .string rv, .slice rA rm rc] 76)) 76 #[.int .i64 rk, .string rn, .string rv, .slice rA rm rc]
                · exact (hc4.keep fun j hj => Below.heap_alloc _ _ _ hj.2.1).mono fun j hj => ⟨hj.1, by have := hj.2.1; simp only [World.size_alloc] at this ⊢; omega, hj.2.2⟩
              obtain ⟨acc2, hacc2⟩ : ∃ l, acc ++ [simpT true t] = l := ⟨_, rfl⟩
              obtain ⟨A', c1, w', hrun, ht6, hS6, hbe⟩ := SAt.app 74 (c2 := 1) hacc2 hS5 hu (by omega) (by simp at hnk; omega)
              have HRUN := Lib.hid hrun
              have HA2 := Lib.hid hacc2
              have HS6 := Lib.hid hS6
              have hbl : Below w.heap.size w w' := (hb.trans (hb4.mono hb.size)).trans (((Below.refl _ _).alloc (by have := hb4.size; have := hb.size; omega) _).trans (hbe w.heap.size (by omega)))
              have hz6 : Blk w' (w.heap.size + 1) 76 _ := ((HZ.out.below hb4 HZ.out.lt).alloc (.cells #[.int .i64 rk, .string rn, .string rv, .slice rA rm rc] 76)).below (hbe (w.heap.size + 2) (by omega)) (by omega)
              obtain ⟨r0, r1, r2, r3, x0, x1, x2, x3⟩ := blkz ht6
              have HZ6 := Lib.hid hz6
              clear hacc2 hc hc4 hu hS5 hS4 hrun hS6 ht6 hz6 hfl hb1 hb1' hbe
              go_wp2_with (at_builtin; refine wpList_append_run rfl (.tmp 53) (.tmp 55) 74 rfl _ _ _ rfl rfl HRUN.out ?_)
              go_roundw
              case rel => exact ⟨j + 1, _, _, acc2, by omega, by go_num, by rw [HSN.out, ← HACC.out, HA2.out], HS6.out, HZ6.out.far (by simp) _, hbl.setCell (by simp; omega) _⟩
              case measure => simp [intOf]; omega
            · -- its kids
              obtain ⟨dd, k1, n1, v1, rkids, A1, m1, c1, hD1, hx, hcs, _, _, _, _, hkk1⟩ := hc4.form
              simp only [List.cons.injEq, Value.int.injEq, Value.slice.injEq, true_and, and_true] at hcs
              obtain ⟨hcs1, _, _, hcs2, hcs3, hcs4⟩ := hcs
              have hrk : rk = (opp k) := by simpa using hkr
              have hfl : flat (opp k) (simpT true t) = rkids := by
                unfold flat
                rw [if_pos]
                · rw [hx]; rfl
                · rw [hx]; show k1 = (opp k); rw [← hcs1, hrk]
              rw [hfl] at HSN hnk
              rw [← hcs2, ← hcs3] at hkk1
              have hrm : 0 < rm := by
                have h1 := HRT.out
                rw [hx] at h1
                match f, h1 with
                | f + 1, h1 =>
                  have h2 := alone_cases (right_kids h1).1
                  rw [hkk1.1] at h2
                  omega
              obtain ⟨acc2, hacc2⟩ : ∃ l, acc ++ rkids = l := ⟨_, rfl⟩
              obtain ⟨A', c9, w', hrun, ht6, hS6, hbe⟩ := SAt.app 74 (c2 := rc) hacc2 hS4 hkk1 hrm (by have := hkk1.1; omega)
              have HRUN := Lib.hid hrun
              have HA2 := Lib.hid hacc2
              have HS6 := Lib.hid hS6
              have hbl : Below w.heap.size w w' := (hb.trans (hb4.mono hb.size)).trans (hbe w.heap.size (by omega))
              have hz6 : Blk w' (w.heap.size + 1) 76 _ := (HZ.out.below hb4 HZ.out.lt).below (hbe (w.heap.size + 2) (by omega)) (by omega)
              obtain ⟨r0, r1, r2, r3, x0, x1, x2, x3⟩ := blkz ht6
              have HZ6 := Lib.hid hz6
              clear hacc2 hc hc4 hkk1 hS4 hrun hS6 ht6 hz6 hfl hb1 hb1' hbe hx hcs1 hcs2 hcs3 hcs4 hrk hD1
              go_wp2_with (at_builtin; refine wpList_append_run rfl (.tmp 47) (.tmp 49) 74 rfl _ _ _ rfl rfl HRUN.out ?_)
              go_roundw
              case rel => exact ⟨j + 1, _, _, acc2, by omega, by go_num, by rw [HSN.out, ← HACC.out, HA2.out], HS6.out, HZ6.out.far (by simp) _, hbl.setCell (by simp; omega) _⟩
              case measure => simp [intOf]; omega
          · obtain rfl : j = m := by omega
            rw [List.take_of_length_le (by rw [hk.1]; omega)] at hacc
            obtain ⟨d0, cells0, ho0, hr0⟩ := hS.row
            obtain ⟨p0, p1, p2, p3, _⟩ := blkz hS.top
            obtain ⟨z0, z1, z2, z3, y0, y1, y2, y3⟩ := blkz hz
            have HN := Lib.hid (cond_node (k := (opp k)) (n := n) (v := v) ho0 (hr0.mono (Y := fun j => w.heap.size + 3 ≤ j ∧ j < wr.heap.size) fun j hj => ⟨hj.1, hj.2.1⟩) (fun b hb => ho0.lt b hb) hn hv)
            have HACC := Lib.hid hacc
            clear ho0 hr0 hS hz hk hacc ha
            go_wp2_with fail
            refine bodyPost_ret (v := .agg #[.int .i64 (opp k), .string n, .string v, .slice Ao acc.length cap]) (by simp [results, Try.results97, go_sem, *]) rfl ?_
            rw [HR.out, ← HACC.out]
            refine ⟨_, n, v, Ao, acc.length, cap, d0 + 1, rfl, ?_, set4_below hb (by omega)⟩
            refine (HN.out.keep fun j hj => set4_far _ _ _ _ _ _ j (by omega)).mono fun j hj => ⟨by omega, by rw [set4_size]; exact hj.2⟩
end Go.Proofs.Ytfgblmdmhgllgaa
