/- Events put together; TraceFirst's walk. -/
import Derived.Test.YtmhfdpgkdpbbiaaEe
import Derived.Maps.AppendAt
import Derived.Deep.MidRow
namespace Go.Proofs.Ytmhfdpgkdpbbiaa
open Go.RowKit Go.Maps

theorem wpList_append_run {w w' : World} {ops : Array Oper} {rest : List Oper} {o : Oper} {a : Act} {Q : Exit → Act → World → Prop} (hgd : o.guard = none) (s x : Operand) (t : TypeId)
    (ho : o.op = .call { callee := .builtin .append, args := #[s, x], argTypes := #[t, t] }) (v u r : Value) (hs : a.eval s = v) (hx : a.eval x = u)
    (hrun : (Builtin.append_ #[t, t] o.type #[v, u]).run Try.prog w = .ok r w') (h : wpList Try.prog ops Q rest (a.put o.dst r) w') : wpList Try.prog ops Q (o :: rest) a w := by
  refine wpList_plain hgd fun K hK => ?_
  unfold Oper.wp execOp
  simp only [ho, resolve, invoke, builtin, Sem.run_bind, Sem.run_pure, Result.andThen_ok, List.map_toArray, List.map_cons, List.map_nil, hs, hx, hrun]
  exact hK _ _ h
theorem ev_info : (Try.prog.info? 27).map (fun i => (i.zero, i.size, i.bytes)) = some (some (.agg #[.int .i64 0, .int .i64 0, .string ByteArray.empty, .int .i64 0]), 4, 40) := by kernel_rfl
theorem evsC_app (a b : List Ev) : evsC (a ++ b) = evsC a ++ evsC b := by simp [evsC]
theorem evsC_one (es : List Ev) : ∀ u ∈ evsC es, u.oneCell' = true := by
  intro u hu
  obtain ⟨e, _, he⟩ := List.mem_flatMap.1 hu
  simp only [evC, List.mem_cons, List.not_mem_nil, or_false] at he
  rcases he with rfl | rfl | rfl | rfl <;> rfl
theorem row_evs {w : World} {v : Value} {n : Nat} {xs : List Ev} (hx : xs.length = n) (hn : n ≤ 1000000000) (h : w.ownsRow 0 27 4 v n (evsC xs)) : ∃ A c, v = .slice A n c ∧ EvsAt w A n xs := by
  rcases h.2 with ⟨e, h0⟩ | ⟨g, cap, cur, e, hB, hg, _, _, h3, h4⟩
  · subst h0
    exact ⟨none, 0, e, hx, by omega, fun hm => by omega⟩
  · refine ⟨_, cap, e, hx, by omega, fun _ => ⟨g, 0, rfl, (Array.getElem?_eq_some_iff.1 hg).1, fun i x hi => ?_⟩⟩
    have hlt : i < n := by rw [← hx]; exact (List.getElem?_eq_some_iff.1 hi).1
    have k : ∀ r, r < 4 → w.cell? ⟨g, 0 + i * 4 + r, none⟩ = (evC x)[r]? := fun r hr => by
      rw [cell_of_row w g (0 + i * 4 + r) cur 27 (0, 0) hg]
      have h5 : (cur.toList.take (n * 4))[i * 4 + r]? = (evC x)[r]? := by rw [h4]; exact evsC_at xs i r x hi hr
      rw [List.getElem?_take_of_lt (by omega)] at h5
      rw [Nat.zero_add, ← Array.getElem?_toList]
      exact h5
    have q0 := k 0 (by omega)
    exact ⟨q0, k 1 (by omega), k 2 (by omega), k 3 (by omega)⟩
theorem append_evs {w : World} {v : Value} {xs more : List Ev} {n : Nat} {A : Option Addr} {m c : Nat} (ty : TypeId) (hx : xs.length = n) (hown : w.ownsRow 0 27 4 v n (evsC xs)) (hs : EvsAt w A m more) (hl : n + m ≤ 100000000) :
    ∃ A' c' w', (Builtin.append_ #[22, 22] ty #[v, .slice A m c]).run Try.prog w = .ok (.slice A' (n + m) c') w' ∧ w'.ownsRow 0 27 4 (.slice A' (n + m) c') (n + m) (evsC (xs ++ more)) ∧ w.grownBy w' v.ownBlock ∧
      ((Value.slice A' (n + m) c').ownBlock = v.ownBlock ∨ (Value.slice A' (n + m) c').ownBlock = some w.heap.size) := by
  obtain ⟨i0, hi0, hz0, hz1, hz2⟩ := info_parts ev_info
  have hbl := hs.1
  cases A with
  | none =>
    obtain rfl : m = 0 := by
      rcases Nat.eq_zero_or_pos m with h0 | h0
      · exact h0
      · obtain ⟨b, o, h, _⟩ := hs.2.2 h0; cases h
    obtain rfl : more = [] := List.eq_nil_of_length_eq_zero hbl
    obtain ⟨A', c', rfl, _⟩ := row_evs hx (by omega) hown
    refine ⟨A', c', w, ?_, by simpa using hown, World.grownBy.refl w _, .inl rfl⟩
    rcases hown.2 with ⟨e, _⟩ | ⟨g, cap, cur, e, _, _, hnc, _⟩
    · injection e with e1 e2 e3; subst e1 e2 e3
      simp [Builtin.append_, run_underlying Try.underlying22, sizeOf, typeInfo, hi0, Builtin.lenOf, Builtin.firstCells]
    · injection e with e1 e2 e3; subst e1 e3
      simp [Builtin.append_, run_underlying Try.underlying22, sizeOf, typeInfo, hi0, Builtin.lenOf, Builtin.firstCells, hnc, storeCells]
  | some ad =>
    obtain ⟨v', w', h1, h2, h3, _, h5⟩ := run_append_own_at (P := Try.prog) w 0 22 ty 27 i0 _ 4 40 Try.underlying22 hi0 hz0 hz1 hz2 rfl (by decide) v n (evsC xs) hown ad m c (evsC more) (by rw [evsC_len, hbl]) (fun j u hu => by
      have hj : j < (evsC more).length := (List.getElem?_eq_some_iff.1 hu).1
      rw [evsC_len, hbl] at hj
      obtain ⟨b, o, e, _, hc⟩ := hs.2.2 (by omega)
      have e := Option.some.inj e
      subst e
      obtain ⟨x, hx'⟩ : ∃ x, more[j / 4]? = some x := ⟨more[j / 4]'(by omega), List.getElem?_eq_getElem _⟩
      obtain ⟨q0, q1, q2, q3⟩ := hc (j / 4) x hx'
      have h9 := evsC_at more (j / 4) (j % 4) x hx' (by omega)
      rw [show j / 4 * 4 + j % 4 = j by omega, hu] at h9
      rw [Addr.add_mid, show o + j = o + j / 4 * 4 + j % 4 by omega]
      rcases (by omega : j % 4 = 0 ∨ j % 4 = 1 ∨ j % 4 = 2 ∨ j % 4 = 3) with e | e | e | e
      all_goals
        rw [e] at h9 ⊢
        simp only [evC, List.getElem?_cons_zero, List.getElem?_cons_succ] at h9
        rw [h9]
        first | exact q0 | exact q1 | exact q2 | exact q3) (evsC_one more) (by unfold maxLen; omega) (by omega) (Nat.zero_le _)
    rw [← evsC_app] at h2
    obtain ⟨A', c', rfl, _⟩ := row_evs (by rw [List.length_append, hx, hbl]) (by omega) h2
    exact ⟨A', c', w', h1, h2, h3, h5⟩
theorem row_empty (w : World) : (w.alloc (.cells #[] 27)).ownsRow 0 27 4 (.slice (some ⟨w.heap.size, 0, none⟩) 0 0) 0 (evsC []) :=
  ⟨by simp [evsC], .inr ⟨w.heap.size, 0, _, rfl, Nat.zero_le _, heap_alloc_new w _, Nat.le_refl _, by decide, rfl, rfl⟩⟩
theorem verT0 (es : List Ev) (x : Bool) : verT 0 es x = verL x es := rfl
theorem any_take {es : List Ev} {j : Nat} {e : Ev} (h : es[j]? = some e) : (es.take (j + 1)).any decB = ((es.take j).any decB || decB e) := by
  obtain ⟨hl, hg⟩ := List.getElem?_eq_some_iff.1 h
  rw [List.take_succ_eq_append_getElem hl, List.any_append, hg]
  simp
set_option maxHeartbeats 2000000 in
set_option maxRecDepth 100000 in
theorem traceFirst_walk {w : World} {A B : Option Addr} {n m : Nat} {es more : List Ev} (c d : Nat) (x : Bool) (h : EvsAt w A n es) (h' : EvsAt w B m more) (hn : n ≤ 1048576) (hm : m ≤ 1048576) :
    Calls Try.prog 6 #[.slice A n c, .slice B m d, .bool x] w (BoolPost w true) := by
  have HH := Lib.hid h
  have HM := Lib.hid h'
  clear h h'
  go_enter Try.func6, Try.ntmps6
  go_wp2_with fail
  refine (ealive_any _).mono ?_
  rintro e w2 ⟨rfl, b2⟩
  have B2 := Lib.hid b2
  have H2 := Lib.hid (HH.out.below b2)
  have M2 := Lib.hid (HM.out.below b2)
  clear b2
  go_wp2_with fail
  refine (verdict_any 0 c x H2.out).mono ?_
  rintro e w3 ⟨rfl, b3⟩
  have B3 := Lib.hid (B2.out.trans (b3.mono B2.out.size))
  have H3 := Lib.hid (H2.out.below b3)
  have M3 := Lib.hid (M2.out.below b3)
  clear b3
  have HV : Hid (verT 0 es x = verL x es) := Lib.hid rfl
  generalize verT 0 es x = v at HV ⊢
  have a4 := (Below.refl w3.heap.size w3).alloc (Nat.le_refl _) (.cells #[] 27)
  obtain ⟨A1, c1, w4, r4, o4, g4, k4⟩ := append_evs (xs := []) (n := 0) (c := c) 22 rfl (row_empty w3) (H3.out.below a4) (by omega)
  rw [Nat.zero_add] at r4 o4 k4
  rw [List.nil_append] at o4
  have q4 : Below w3.heap.size w3 w4 := a4.trans ⟨g4.os, g4.tape, g4.output, g4.size, fun i hi => g4.block i (by have := a4.size; omega) (by
    intro e
    have e : i = w3.heap.size := Option.some.inj e
    omega)⟩
  have k4' : ∀ i, (Value.slice A1 n c1).ownBlock = some i → w3.heap.size ≤ i := fun i hi => by
    rcases k4 with k | k
    · rw [k] at hi
      have : w3.heap.size = i := Option.some.inj hi
      omega
    · rw [k] at hi
      have := Option.some.inj hi
      have := a4.size
      omega
  obtain ⟨A2, c2, w5, r5, o5, g5, k5⟩ := append_evs (c := d) 22 H3.out.1 o4 ((M3.out.below q4)) (by omega)
  have q5 : Below w3.heap.size w3 w5 := q4.trans ⟨g5.os, g5.tape, g5.output, g5.size, fun i hi => g5.block i (by have := q4.size; omega) (by
    intro e
    have := k4' i e.symm
    omega)⟩
  obtain ⟨A3, c3, e3, hall⟩ := row_evs (by rw [List.length_append, H3.out.1, M3.out.1]) (by omega) o5
  injection e3 with e31 _ e33
  subst e31 e33
  have R4 := Lib.hid r4
  have R5 := Lib.hid r5
  have B5 := Lib.hid (B3.out.trans (q5.mono B3.out.size))
  have H5 := Lib.hid (H3.out.below q5)
  have M5 := Lib.hid (M3.out.below q5)
  have N5 := Lib.hid hall
  have hn0 := H3.out.1
  have HN0 := Lib.hid hn0
  clear a4 r4 g4 q4 g5 k5 q5 hall r5 B2 H2 M2 HH HM B3 H3 M3 hn0
  have hnn : (n : Int) ≤ 1048576 := by omega
  go_wp2_with (at_builtin; first | refine wpList_append_run rfl (.tmp 18) (.tmp 19) 22 rfl _ _ _ rfl rfl R4.out ?_ | refine wpList_append_run rfl (.tmp 20) (.tmp 21) 22 rfl _ _ _ rfl rfl R5.out ?_)
  clear R4 R5
  go_loopw [9, 25] (fun b i wr => ∃ j : Nat, j ≤ n ∧ i = .int .i64 (j : Nat) ∧ b = .bool ((es.take j).any decB) ∧ Below w5.heap.size w5 wr) (fun _ i _ => n - (intOf i).toNat)
  case atStart => exact ⟨0, Nat.zero_le _, rfl, rfl, Below.refl _ _⟩
  case round =>
    obtain ⟨j, hj, rfl, rfl, hb⟩ := hrel
    by_cases hlt : j < n
    · have hlt' : (j : Int) < (n : Int) := by omega
      have hj0 : (0 : Int) ≤ (j : Int) := by omega
      obtain ⟨⟨k, p, t, a⟩, hz⟩ : ∃ z, es[j]? = some z := ⟨es[j]'(by rw [HN0.out]; omega), List.getElem?_eq_getElem _⟩
      obtain ⟨b1, o1, rfl, hb1, hc1⟩ := (H5.out.below hb).2.2 (by omega)
      obtain ⟨d0, d1, d2, d3⟩ := hc1 j _ hz
      have HT := Lib.hid (any_take hz)
      clear hc1 hz
      have C := Lib.hid (decides_any k p t a (wr.alloc (.cells #[.int .i64 k, .int .i64 p, .string t, .int .i64 a] 27)))
      have BA := Lib.hid ((Below.refl wr.heap.size wr).alloc (Nat.le_refl _) (.cells #[.int .i64 k, .int .i64 p, .string t, .int .i64 a] 27))
      rcases hd : (es.take j).any decB with _ | _
      · rw [hd] at HT
        clear hd
        go_wp2_with fail
        refine C.out.mono ?_
        rintro e w6 ⟨rfl, b6⟩
        go_wp2
        go_roundw
        case rel => exact ⟨j + 1, by omega, by go_num, by rw [HT.out]; rfl, hb.trans ((BA.out.trans (b6.mono BA.out.size)).mono hb.size)⟩
        case measure => simp [intOf]; omega
      · rw [hd] at HT
        clear hd
        go_wp2_with fail
        go_roundw
        case rel => exact ⟨j + 1, by omega, by go_num, by rw [HT.out]; rfl, hb.trans (BA.out.mono hb.size)⟩
        case measure => simp [intOf]; omega
    · have hlt' : ¬ (j : Int) < (n : Int) := by omega
      have H6 := Lib.hid (H5.out.below hb)
      have M6 := Lib.hid (M5.out.below hb)
      have N6 := Lib.hid (N5.out.below hb)
      have B6 := Lib.hid (B5.out.trans (hb.mono B5.out.size))
      have ht : es.take j = es := List.take_of_length_le (by rw [HN0.out]; omega)
      rw [ht]
      have hcs := verL_cases x es
      have C1 := fun W (h : EvsAt W A2 (n + m) (es ++ more)) => Lib.hid (verdict_any 0 c2 x h)
      have C2 := fun W (h : EvsAt W B m more) => Lib.hid (verdict_any 0 d x h)
      have C3 := fun W (h : EvsAt W A n es) => Lib.hid (verdict_any 0 c (!x) h)
      rcases hd : es.any decB with _ | _
      · obtain ⟨y1, y2⟩ := verL_app_no x es more hd
        have y3 : verL (!x) es = 5 := (verL_app_no (!x) es more hd).2
        have HV5 : v = 5 := HV.out.trans y2
        rw [verT0, y1] at C1
        rw [verT0] at C2
        rw [verT0, y3] at C3
        clear hcs y1 y2 y3 ht hb hd HV
        subst HV5
        generalize verL x more = vm at C1 C2
        go_wp2_with fail
        refine (C1 _ N6.out).out.mono ?_
        rintro e w7 ⟨rfl, b7⟩
        have M7 := Lib.hid (M6.out.below b7)
        have H7 := Lib.hid (H6.out.below b7)
        have B7 := Lib.hid (B6.out.trans (b7.mono B6.out.size))
        clear b7
        go_wp2_with fail
        refine (C2 _ M7.out).out.mono ?_
        rintro e w8 ⟨rfl, b8⟩
        have H8 := Lib.hid (H7.out.below b8)
        have B8 := Lib.hid (B7.out.trans (b8.mono B7.out.size))
        clear b8
        go_wp2_with fail
        refine (C3 _ H8.out).out.mono ?_
        rintro e w9 ⟨rfl, b9⟩
        go_wp2
        go_ret
        exact ⟨rfl, B8.out.trans (b9.mono B8.out.size)⟩
      · have y1 := verL_app_yes x es more hd
        have HV5 : v = verL x es := HV.out
        rw [verT0, y1, ← HV5] at C1
        rw [verT0] at C3
        rw [← HV5] at hcs
        generalize verL (!x) es = vn at C3 hcs
        have H6' := H6
        have T : ∀ y : Bool, y = x → True := fun _ _ => trivial
        clear y1 ht hb hd HV HV5 C2 T H6'
        have hvs : (v = 5 ∧ vn = 5) ∨ (v = 1 ∧ vn = 3) ∨ (v = 3 ∧ vn = 1) ∨ (v = 2 ∧ vn = 4) ∨ (v = 4 ∧ vn = 2) := by
          cases x <;> simp at hcs <;> omega
        clear hcs
        rcases hvs with ⟨rfl, rfl⟩ | ⟨rfl, rfl⟩ | ⟨rfl, rfl⟩ | ⟨rfl, rfl⟩ | ⟨rfl, rfl⟩
        all_goals
          go_wp2_with fail
          refine (C1 _ N6.out).out.mono ?_
          rintro e w7 ⟨rfl, b7⟩
          have H7 := Lib.hid (H6.out.below b7)
          have B7 := Lib.hid (B6.out.trans (b7.mono B6.out.size))
          clear b7
          go_wp2_with fail
          refine (C3 _ H7.out).out.mono ?_
          rintro e w9 ⟨rfl, b9⟩
          have B9 := B7.out.trans (b9.mono B7.out.size)
          go_wp2
          go_ret
          first | exact ⟨rfl, B9⟩ | exact ⟨rfl, B9.alloc B9.size _⟩
end Go.Proofs.Ytmhfdpgkdpbbiaa
