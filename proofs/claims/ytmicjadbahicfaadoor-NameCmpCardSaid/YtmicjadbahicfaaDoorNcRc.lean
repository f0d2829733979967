/- The reference's Cmp answers cmpS. -/
import Derived.Test.YtmicjadbahicfaaDoorNcRl
namespace Go.Proofs.YtmicjadbahicfaaDoor
open Go.RowKit

theorem take_all_run {l : List UInt8} {x : UInt8} {l' : List UInt8} (h : l = x :: l') (hx : isD x = true) : l.take (tlen l) = run l := by
  subst h; rw [(tok_digit hx).2]; exact run_pre _
theorem cmpS_lt {a b : List UInt8} (ha : a ≠ []) (hb : b ≠ []) (h : cT (tok a) (tok b) < 0) : cmpS a b = -1 := by
  have := cT_bd (tok a) (tok b)
  rw [cmpS_step ha hb, if_pos (by omega)]; omega
theorem cmpS_gt {a b : List UInt8} (ha : a ≠ []) (hb : b ≠ []) (h : 0 < cT (tok a) (tok b)) : cmpS a b = 1 := by
  have := cT_bd (tok a) (tok b)
  rw [cmpS_step ha hb, if_pos (by omega)]; omega
theorem cmpS_eq {a b : List UInt8} (ha : a ≠ []) (hb : b ≠ []) (h : cT (tok a) (tok b) = 0) : cmpS a b = cmpS (a.drop (tlen a)) (b.drop (tlen b)) := by
  rw [cmpS_step ha hb, if_neg (by simp [h])]

set_option maxHeartbeats 2000000 in
theorem refCmp_end (a b : ByteArray) (w : World) (h : a.size = 0 ∨ b.size = 0) (ha : a.size ≤ maxLen) (hb : b.size ≤ maxLen) :
    Calls Tryd.prog 12 #[.string a, .string b] w fun e w' => e = .returned (.int .i64 (cmpS a.data.toList b.data.toList)) ∧ ∃ m, w' = w.drewN m := by
  unfold maxLen at ha hb
  by_cases ha1 : a.size = 0
  · have hla : a.data.toList = [] := List.length_eq_zero_iff.1 ha1
    have ha0 : ((a.size : Int) == 0) = true := by rw [beq_iff_eq]; omega
    by_cases hb0 : b.size = 0
    · have hlb : b.data.toList = [] := List.length_eq_zero_iff.1 hb0
      have HV := Lib.hid (show cmpS a.data.toList b.data.toList = 0 by rw [hla, hlb]; rfl)
      have hab : ((a.size : Int) == (b.size : Int)) = true := by rw [beq_iff_eq]; omega
      clear hla hlb hb0 ha1 h
      go_enter Tryd.func12, Tryd.ntmps12
      go_wp2_with fail
      go_ret
      exact ⟨ret_int HV.out.symm, 0, rfl⟩
    · have HV := Lib.hid (show cmpS a.data.toList b.data.toList = -1 by
        rw [hla, cmpS_nil, if_neg]; intro e; have := congrArg List.length e; exact hb0 this)
      have hab : ((a.size : Int) == (b.size : Int)) = false := by rw [beq_eq_false_iff_ne]; omega
      clear hla hb0 ha1 h
      go_enter Tryd.func12, Tryd.ntmps12
      go_wp2_with fail
      go_ret
      exact ⟨ret_int HV.out.symm, 0, rfl⟩
  · have hb1 : b.size = 0 := by omega
    have hlb : b.data.toList = [] := List.length_eq_zero_iff.1 hb1
    have HV := Lib.hid (show cmpS a.data.toList b.data.toList = 1 by
      rw [hlb, cmpS_nil']; intro e; have := congrArg List.length e; exact ha1 this)
    have ha0 : ((a.size : Int) == 0) = false := by rw [beq_eq_false_iff_ne]; omega
    have hb0 : ((b.size : Int) == 0) = true := by rw [beq_iff_eq]; omega
    have hab : ((a.size : Int) == (b.size : Int)) = false := by rw [beq_eq_false_iff_ne]; omega
    clear hlb hb1 ha1 h
    go_enter Tryd.func12, Tryd.ntmps12
    go_wp2_with fail
    go_ret
    exact ⟨ret_int HV.out.symm, 0, rfl⟩

theorem quiet_behind {P : Program} {f : FuncId} {args : Array Value} {w : World} {k n : Nat} {v : Value} (h : Calls P f args (w.drewN (k + n)) fun e w' => e = .returned v ∧ ∃ m, w' = (w.drewN (k + n)).drewN m) :
    Calls P f args (w.drewN (k + n)) fun e w' => e = .returned v ∧ ∃ m, w' = w.drewN (k + m) := by
  refine h.mono ?_
  rintro e w' ⟨he, m, hm⟩
  exact ⟨he, n + m, by rw [hm, World.drewN_drewN, Nat.add_assoc]⟩
theorem tail_size {a : ByteArray} {k n : Nat} (h : k ≤ a.size) (h1 : 1 ≤ k) (hn : a.size ≤ n + 1) (hm : a.size ≤ maxLen) : (a.extract k a.size).size ≤ n ∧ (a.extract k a.size).size ≤ maxLen := by
  simp only [ByteArray.size_extract]; unfold maxLen at *; omega
theorem tail_le {a : ByteArray} {k : Nat} (hm : a.size ≤ maxLen) : (a.extract k a.size).size ≤ maxLen := by
  simp only [ByteArray.size_extract]; unfold maxLen at *; omega

set_option maxHeartbeats 8000000 in
set_option maxRecDepth 100000 in
theorem refCmp : ∀ (n : Nat) (a b : ByteArray) (w : World), a.size ≤ n → a.size ≤ maxLen → b.size ≤ maxLen →
    Calls Tryd.prog 12 #[.string a, .string b] w fun e w' => e = .returned (.int .i64 (cmpS a.data.toList b.data.toList)) ∧ ∃ m, w' = w.drewN m := by
  intro n
  induction n with
  | zero => intro a b w hn ha hb; exact refCmp_end a b w (Or.inl (by omega)) ha hb
  | succ n ih =>
    intro a b w hn ha hb
    have ha9 := ha
    have hb9 := hb
    unfold maxLen at ha hb
    have IH := Lib.hid ih
    clear ih
    by_cases ha1 : a.size = 0
    · exact refCmp_end a b w (Or.inl ha1) ha9 hb9
    · by_cases hb1 : b.size = 0
      · exact refCmp_end a b w (Or.inr hb1) ha9 hb9
      · have hpa : 0 < a.size := by omega
        have hpb : 0 < b.size := by omega
        have ha0 : ((a.size : Int) == 0) = false := by rw [beq_eq_false_iff_ne]; omega
        have hb0 : ((b.size : Int) == 0) = false := by rw [beq_eq_false_iff_ne]; omega
        clear ha1 hb1
        have hna := drop_ne (a := a) (k := 0) hpa
        have hnb := drop_ne (a := b) (k := 0) hpb
        rw [List.drop_zero] at hna hnb
        have hca := drop_cons (a := a) (k := 0) hpa
        have hcb := drop_cons (a := b) (k := 0) hpb
        rw [List.drop_zero] at hca hcb
        obtain ⟨p, hp⟩ : ∃ p : ByteArray, p.data.toList = a.data.toList.take (tlen a.data.toList) := ⟨⟨(a.data.toList.take (tlen a.data.toList)).toArray⟩, by simp⟩
        obtain ⟨q, hq⟩ : ∃ q : ByteArray, q.data.toList = b.data.toList.take (tlen b.data.toList) := ⟨⟨(b.data.toList.take (tlen b.data.toList)).toArray⟩, by simp⟩
        have lp := tlen_le hna
        have lq := tlen_le hnb
        have l1 := tlen_pos a.data.toList
        have l2 := tlen_pos b.data.toList
        have sp : p.size = tlen a.data.toList := by
          have : p.data.toList.length = p.size := rfl
          rw [← this, hp, List.length_take]; omega
        have sq : q.size = tlen b.data.toList := by
          have : q.data.toList.length = q.size := rfl
          rw [← this, hq, List.length_take]; omega
        have lsa : a.data.toList.length = a.size := rfl
        have lsb : b.data.toList.length = b.size := rfl
        have p1 : 0 < p.size := by omega
        have p2 : p.size ≤ a.size := by omega
        have q1 : 0 < q.size := by omega
        have q2 : q.size ≤ b.size := by omega
        have bp : bt p 0 = bt a 0 := by
          rw [bt_get p 0 p1, bt_get a 0 hpa]
          simp only [hp, List.getElem_take]
        have bq : bt q 0 = bt b 0 := by
          rw [bt_get q 0 q1, bt_get b 0 hpb]
          simp only [hq, List.getElem_take]
        have hbp := bt_eq p 0 p1
        have hbq := bt_eq q 0 q1
        rw [bp] at hbp
        rw [bq] at hbq
        have hba := bt_eq a 0 hpa
        have hbb := bt_eq b 0 hpb
        have PA := Lib.hid (fun w => partR a p w ha9 hpa hp)
        have PB := Lib.hid (fun w => partR b q w hb9 hpb hq)
        have D1 := Lib.hid (isD_bt (a := a) (k := 0) hpa)
        have D2 := Lib.hid (isD_bt (a := b) (k := 0) hpb)
        clear bp bq
        have both : (digB (bt a 0) = true ∧ digB (bt b 0) = true) ∨ (digB (bt a 0) = false ∨ digB (bt b 0) = false) := by
          cases digB (bt a 0) <;> cases digB (bt b 0) <;> simp
        rcases both with ⟨d1, d2⟩ | d
        · have i1 := D1.out.symm.trans d1
          have i2 := D2.out.symm.trans d2
          have rp : p.data.toList = run a.data.toList := hp.trans (take_all_run hca i1)
          have rq : q.data.toList = run b.data.toList := hq.trans (take_all_run hcb i2)
          have ap : AllD p.data.toList := by rw [rp]; exact run_all _
          have aq : AllD q.data.toList := by rw [rq]; exact run_all _
          have et : cT (tok a.data.toList) (tok b.data.toList) = cT (48, val p.data.toList, p.data.toList.length) (48, val q.data.toList, q.data.toList.length) := by
            rw [rp, rq]
            conv => lhs; rw [hca, hcb]
            rw [(tok_digit i1).1, (tok_digit i2).1, ← hca, ← hcb]
          have L1 := Lib.hid (fun w => lessR p q w (by unfold maxLen; omega) (by unfold maxLen; omega) ap aq)
          have L2 := Lib.hid (fun w => lessR q p w (by unfold maxLen; omega) (by unfold maxLen; omega) aq ap)
          have z1 : lessV p.data.toList q.data.toList = decide (cT (tok a.data.toList) (tok b.data.toList) < 0) := by rw [et]; rfl
          have z2 : lessV q.data.toList p.data.toList = decide (0 < cT (tok a.data.toList) (tok b.data.toList)) := by
            rw [et, cT_neg]; unfold lessV; rw [Bool.eq_iff_iff]; simp only [decide_eq_true_eq]; omega
          by_cases c1 : cT (tok a.data.toList) (tok b.data.toList) < 0
          · have HV := Lib.hid (cmpS_lt hna hnb c1)
            have k1 : lessV p.data.toList q.data.toList = true := by rw [z1]; simpa using c1
            clear hna hnb hca hcb hp hq rp rq ap aq et z1 z2 c1 i1 i2 lsa lsb sp sq lp lq l1 l2
            go_enter Tryd.func12, Tryd.ntmps12
            go_wp2_with fail
            refine (PA.out _).mono ?_
            rintro e w' ⟨rfl, rfl⟩
            go_wp2_with fail
            refine (PB.out _).mono ?_
            rintro e w' ⟨rfl, rfl⟩
            go_wp2_with (first
              | (go_at_call 32; refine (digitR _ _).mono ?_; rintro e w' ⟨rfl, rfl⟩)
              | (go_at_call 33; refine (L1.out _).mono ?_; rintro e w' ⟨rfl, rfl⟩))
            go_ret
            exact ⟨ret_int HV.out.symm, 0, rfl⟩
          · by_cases c2 : 0 < cT (tok a.data.toList) (tok b.data.toList)
            · have HV := Lib.hid (cmpS_gt hna hnb c2)
              have k1 : lessV p.data.toList q.data.toList = false := by rw [z1]; simpa using c1
              have k2 : lessV q.data.toList p.data.toList = true := by rw [z2]; simpa using c2
              clear hna hnb hca hcb hp hq rp rq ap aq et z1 z2 c1 c2 i1 i2 lsa lsb sp sq lp lq l1 l2
              go_enter Tryd.func12, Tryd.ntmps12
              go_wp2_with fail
              refine (PA.out _).mono ?_
              rintro e w' ⟨rfl, rfl⟩
              go_wp2_with fail
              refine (PB.out _).mono ?_
              rintro e w' ⟨rfl, rfl⟩
              go_wp2_with (go_at_call 32; refine (digitR _ _).mono ?_; rintro e w' ⟨rfl, rfl⟩)
              refine (L1.out _).mono ?_
              rintro e w' ⟨rfl, rfl⟩
              go_wp2_with fail
              refine (L2.out _).mono ?_
              rintro e w' ⟨rfl, rfl⟩
              go_wp2_with fail
              go_ret
              exact ⟨ret_int HV.out.symm, 0, rfl⟩
            · have c0 : cT (tok a.data.toList) (tok b.data.toList) = 0 := by omega
              have HV := Lib.hid (show cmpS a.data.toList b.data.toList = cmpS (a.extract p.size a.size).data.toList (b.extract q.size b.size).data.toList by
                rw [tail_list, tail_list, sp, sq]; exact cmpS_eq hna hnb c0)
              have k1 : lessV p.data.toList q.data.toList = false := by rw [z1]; simpa using c1
              have k2 : lessV q.data.toList p.data.toList = false := by rw [z2]; simpa using c2
              have R := Lib.hid (fun w => IH.out (a.extract p.size a.size) (b.extract q.size b.size) w (tail_size p2 p1 hn ha9).1 (tail_size p2 p1 hn ha9).2 (tail_le hb9))
              clear hna hnb hca hcb hp hq rp rq ap aq et z1 z2 c1 c2 c0 i1 i2 lsa lsb sp sq lp lq l1 l2
              go_enter Tryd.func12, Tryd.ntmps12
              go_wp2_with fail
              refine (PA.out _).mono ?_
              rintro e w' ⟨rfl, rfl⟩
              go_wp2_with fail
              refine (PB.out _).mono ?_
              rintro e w' ⟨rfl, rfl⟩
              go_wp2_with (go_at_call 32; refine (digitR _ _).mono ?_; rintro e w' ⟨rfl, rfl⟩)
              refine (L1.out _).mono ?_
              rintro e w' ⟨rfl, rfl⟩
              go_wp2_with fail
              refine (L2.out _).mono ?_
              rintro e w' ⟨rfl, rfl⟩
              go_wp2_with fail
              have u1 : (p.size : Int) ≤ (a.size : Int) := by omega
              have u2 : (q.size : Int) ≤ (b.size : Int) := by omega
              have u3 : (0 : Int) ≤ (p.size : Int) := by omega
              have u4 : (0 : Int) ≤ (q.size : Int) := by omega
              go_quiet ((go_at_call 12; exact Calls.quiet_of (R.out _)))
              go_wp2_with fail
              go_ret
              exact ⟨ret_int HV.out.symm, by first | exact ⟨_, rfl⟩ | (simp only [World.drewN_drewN]; exact ⟨_, rfl⟩)⟩
        · have hcI : cI (bt a 0) (bt b 0) = cT (tok a.data.toList) (tok b.data.toList) := by
            conv => rhs; rw [hca, hcb]
            have dd := d
            rw [D1.out, D2.out] at dd
            rw [cT_other dd, bt_get a 0 hpa, bt_get b 0 hpb, cI_nat]
          have ds : (digB (bt a 0) = false) ∨ (digB (bt a 0) = true ∧ digB (bt b 0) = false) := by
            cases h : digB (bt a 0)
            · exact Or.inl rfl
            · exact Or.inr ⟨rfl, by rw [h] at d; simpa using d⟩
          rcases Int.lt_trichotomy (bt a 0) (bt b 0) with c1 | c1 | c1
          · have HV := Lib.hid (cmpS_lt hna hnb (by rw [← hcI]; unfold cI; rw [if_pos c1]; decide))
            clear hna hnb hca hcb hp hq hcI d lsa lsb sp sq lp lq l1 l2
            rcases ds with d1 | ⟨d1, d2⟩
            all_goals
              go_enter Tryd.func12, Tryd.ntmps12
              go_wp2_with fail
              refine (PA.out _).mono ?_
              rintro e w' ⟨rfl, rfl⟩
              go_wp2_with fail
              refine (PB.out _).mono ?_
              rintro e w' ⟨rfl, rfl⟩
              go_wp2_with (go_at_call 32; refine (digitR _ _).mono ?_; rintro e w' ⟨rfl, rfl⟩)
              go_quiet (fail)
              go_wp2_with fail
              go_ret
              exact ⟨ret_int HV.out.symm, by first | exact ⟨_, rfl⟩ | (simp only [World.drewN_drewN]; exact ⟨_, rfl⟩)⟩
          · have c0 : cT (tok a.data.toList) (tok b.data.toList) = 0 := by rw [← hcI]; unfold cI; rw [if_neg (by omega), if_neg (by omega)]
            have hd1 : isD (a.data.toList[0]'hpa) = false := by
              rw [← D1.out]
              rcases d with d | d
              · exact d
              · rw [c1]; exact d
            have hd2 : isD (b.data.toList[0]'hpb) = false := by rw [← D2.out, ← c1, D1.out]; exact hd1
            have t1 : tlen a.data.toList = 1 := by rw [hca]; exact (tok_other hd1).2
            have t2 : tlen b.data.toList = 1 := by rw [hcb]; exact (tok_other hd2).2
            have HV := Lib.hid (show cmpS a.data.toList b.data.toList = cmpS (a.extract 1 a.size).data.toList (b.extract 1 b.size).data.toList by
              have hh := cmpS_eq hna hnb c0
              rw [t1, t2] at hh
              rw [tail_list, tail_list]; exact hh)
            have R := Lib.hid (fun w => IH.out (a.extract 1 a.size) (b.extract 1 b.size) w (tail_size hpa (Nat.le_refl _) hn ha9).1 (tail_size hpa (Nat.le_refl _) hn ha9).2 (tail_le hb9))
            have k1 : decide (bt a 0 < bt b 0) = false := by simp; omega
            have k2 : decide (bt b 0 < bt a 0) = false := by simp; omega
            clear hna hnb hca hcb hp hq hcI d lsa lsb sp sq lp lq l1 l2 c0 hd1 hd2 t1 t2 c1
            rcases ds with d1 | ⟨d1, d2⟩
            all_goals
              go_enter Tryd.func12, Tryd.ntmps12
              go_wp2_with fail
              refine (PA.out _).mono ?_
              rintro e w' ⟨rfl, rfl⟩
              go_wp2_with fail
              refine (PB.out _).mono ?_
              rintro e w' ⟨rfl, rfl⟩
              go_wp2_with (go_at_call 32; refine (digitR _ _).mono ?_; rintro e w' ⟨rfl, rfl⟩)
              go_quiet (fail)
              go_wp2_with fail
              go_quiet (fail)
              go_wp2_with fail
              have u1 : (1 : Int) ≤ (a.size : Int) := by omega
              have u2 : (1 : Int) ≤ (b.size : Int) := by omega
              go_quiet ((go_at_call 12; exact quiet_behind (R.out _)))
              go_wp2_with fail
              go_ret
              exact ⟨ret_int HV.out.symm, by first | exact ⟨_, rfl⟩ | (simp only [World.drewN_drewN]; exact ⟨_, rfl⟩)⟩
          · have HV := Lib.hid (cmpS_gt hna hnb (by rw [← hcI]; unfold cI; rw [if_neg (by omega), if_pos c1]; decide))
            have k1 : decide (bt a 0 < bt b 0) = false := by simp; omega
            clear hna hnb hca hcb hp hq hcI d lsa lsb sp sq lp lq l1 l2
            rcases ds with d1 | ⟨d1, d2⟩
            all_goals
              go_enter Tryd.func12, Tryd.ntmps12
              go_wp2_with fail
              refine (PA.out _).mono ?_
              rintro e w' ⟨rfl, rfl⟩
              go_wp2_with fail
              refine (PB.out _).mono ?_
              rintro e w' ⟨rfl, rfl⟩
              go_wp2_with (go_at_call 32; refine (digitR _ _).mono ?_; rintro e w' ⟨rfl, rfl⟩)
              go_quiet (fail)
              go_wp2_with fail
              go_quiet (fail)
              go_wp2_with fail
              go_ret
              exact ⟨ret_int HV.out.symm, by first | exact ⟨_, rfl⟩ | (simp only [World.drewN_drewN]; exact ⟨_, rfl⟩)⟩

end Go.Proofs.YtmicjadbahicfaaDoor
