/- The document's own buffer: New, Put, Take; bytes held against each other, quietly. -/
import Derived.Test.YtmcapiikplflkaaBh
namespace Go.Proofs.Ytmcapiikplflkaa
open Go.RowKit Go.Maps

set_option maxHeartbeats 1000000 in
set_option maxRecDepth 100000 in
theorem sameb_q {w : World} {A B : Option Addr} {n c d : Nat} {xs : List UInt8} (hx : BytesAt w A n xs) (hy : BytesAt w B n xs) (hn : n ≤ maxLen) :
    Calls Try.prog 23 #[.slice A n c, .slice B n d] w fun e w' => e = .returned (.bool true) ∧ ∃ k, w' = w.drewN k := by
  have hl := hx.1
  unfold maxLen at hn
  go_enter Try.func23, Try.ntmps23
  go_wp2_with fail
  go_loopw [5] (fun i wr => ∃ j : Nat, j ≤ n ∧ i = .int .i64 (j : Nat) ∧ ∃ k, wr = w.drewN k) (fun i _ => n - (intOf i).toNat)
  case atStart => exact ⟨0, Nat.zero_le _, rfl, 0, rfl⟩
  case round =>
    obtain ⟨j, hj, rfl, k, rfl⟩ := hrel
    by_cases hlt : j < n
    · have hlt' : (j : Int) < (n : Int) := by omega
      have hj0 : (0 : Int) ≤ (j : Int) := by omega
      obtain ⟨b1, o1, rfl, hb1, hc1⟩ := hx.2 (by omega)
      obtain ⟨b2, o2, rfl, hb2, hc2⟩ := hy.2 (by omega)
      obtain ⟨z, hz⟩ : ∃ z, xs[j]? = some z := ⟨xs[j]'(by omega), List.getElem?_eq_getElem _⟩
      have y1 : w.cell? ⟨b1, o1 + j, none⟩ = some (.int .u8 (z.toNat : Nat)) := hc1 j z hz
      have y2 : w.cell? ⟨b2, o2 + j, none⟩ = some (.int .u8 (z.toNat : Nat)) := hc2 j z hz
      clear hc1 hc2 hz
      go_wp2
      go_quiet (fail)
      go_wp2
      go_roundw
      case rel => exact ⟨j + 1, by omega, by go_num, _, rfl⟩
      case measure => simp [intOf]; omega
    · have hlt' : ¬ (j : Int) < (n : Int) := by omega
      go_wp2
      go_ret
      exact ⟨rfl, _, rfl⟩
def betw (n lo hi : Int) : Int := if n < lo then lo else if hi < n then hi else n
set_option maxRecDepth 100000 in
theorem between_any (n lo hi : Int) (w : World) : Calls Try.prog 64 #[.int .i64 n, .int .i64 lo, .int .i64 hi] w fun e w' => e = .returned (.int .i64 (betw n lo hi)) ∧ w' = w := by
  rcases Int.lt_or_le n lo with h1 | h1
  · have e : betw n lo hi = lo := by unfold betw; rw [if_pos h1]
    rw [e]
    clear e
    go_enter Try.func64, Try.ntmps64
    go_wp2
    go_ret
    exact ⟨rfl, rfl⟩
  · have h1' : ¬ n < lo := by omega
    rcases Int.lt_or_le hi n with h2 | h2
    · have e : betw n lo hi = hi := by unfold betw; rw [if_neg h1', if_pos h2]
      rw [e]
      clear e
      go_enter Try.func64, Try.ntmps64
      go_wp2
      go_ret
      exact ⟨rfl, rfl⟩
    · have h2' : ¬ hi < n := by omega
      have e : betw n lo hi = n := by unfold betw; rw [if_neg h1', if_neg h2']
      rw [e]
      clear e
      go_enter Try.func64, Try.ntmps64
      go_wp2
      go_ret
      exact ⟨rfl, rfl⟩
theorem betw_most (k : Int) : betw k 1 2000 = (mostOf k : Nat) := by
  unfold betw mostOf
  split
  · omega
  · split <;> omega
theorem betw_take (k : Int) (n : Nat) : betw k 0 (n : Int) = (takeN k n : Nat) := by
  unfold betw takeN
  split
  · omega
  · split <;> omega
set_option maxRecDepth 100000 in
theorem rbnew_any (k : Int) (w : World) : Calls Try.prog 44 #[.int .i64 k] w fun e w' => e = .returned (.agg #[.int .i64 (mostOf k : Nat), .slice none 0 0, .int .i64 0]) ∧ Below w.heap.size w w' := by
  have C := Lib.hid (fun V => between_any k 1 2000 V)
  rw [betw_most] at C
  have HB := Lib.hid (Below.refl w.heap.size w)
  go_enter Try.func44, Try.ntmps44
  go_wp2_with fail
  refine (C.out _).mono ?_
  rintro e w1 ⟨rfl, rfl⟩
  go_wp2
  refine bodyPost_ret (v := .agg #[.int .i64 (mostOf k : Nat), .slice none 0 0, .int .i64 0]) (by simp [results, Try.results44, go_sem]) rfl ⟨rfl, ?_⟩
  exact HB.out.alloc (Nat.le_refl _) _
section
variable {w w' : World} {A B : Option Addr} {n c m d most : Nat} {bs xs : List UInt8} {gone k : Int}
def RTakeP (w : World) (A : Option Addr) (n c most : Nat) (gone : Int) (t : Nat) (e : Ending) (w' : World) : Prop := e = .returned (.tuple #[.agg #[.int .i64 (most : Nat), .slice (behind A c t) (n - t) (c - t), .int .i64 gone], .slice A t c]) ∧ Below w.heap.size w w'
set_option maxHeartbeats 1000000 in
set_option maxRecDepth 100000 in
theorem rbtake_any (hr : RowAt w A n c bs) (k : Int) : Calls Try.prog 48 #[.agg #[.int .i64 (most : Nat), .slice A n c, .int .i64 gone], .int .i64 k] w (RTakeP w A n c most gone (takeN k n)) := by
  have hle := hr.le
  have hmx := hr.max
  unfold maxLen at hmx
  obtain ⟨t, ht⟩ : ∃ t, t = takeN k n := ⟨_, rfl⟩
  have htn : t ≤ n := ht ▸ takeN_le k n
  have C := Lib.hid (fun V => between_any k 0 (n : Int) V)
  rw [betw_take, ← ht] at C
  rw [← ht]
  obtain ⟨A1, hA1⟩ : ∃ A1, (if c = t then A else Option.map (fun x => x.add t) A) = A1 := ⟨_, rfl⟩
  have HA := Lib.hid (show behind A c t = A1 from hA1)
  have htc : t ≤ c := by omega
  have HB := Lib.hid (Below.refl w.heap.size w)
  clear hr ht
  go_enter Try.func48, Try.ntmps48
  go_wp2_with fail
  refine (C.out _).mono ?_
  rintro e w1 ⟨rfl, rfl⟩
  go_wp2
  refine bodyPost_ret (v := .tuple #[.agg #[.int .i64 (most : Nat), .slice A1 (n - t) (c - t), .int .i64 gone], .slice A t c]) (by simp [results, Try.results48, go_sem]) rfl ⟨by rw [HA.out], ?_⟩
  exact (HB.out.alloc (Nat.le_refl _) _).alloc (by simp) _
/-- The boxes of the call's argument and of its answer; a row of the call's own beside them, nothing older turned. -/
structure PutB (w V : World) (cs : Array Value) (A6 : Option Addr) (n6 c6 : Nat) (zs : List UInt8) : Prop where
  box : Blk V w.heap.size 85 cs
  box2 : Blk V (w.heap.size + 1) 85 #[.int .i64 0, .slice none 0 0, .int .i64 0]
  row : RowAt V A6 n6 c6 zs
  far : ∀ j, InB A6 j → w.heap.size + 2 ≤ j
  old : Below w.heap.size w V
theorem PutB.push {V : World} {cs : Array Value} {A6 : Option Addr} {n6 c6 : Nat} {zs : List UInt8} (ty : TypeId) (z : UInt8) (h : PutB w V cs A6 n6 c6 zs) (hl : n6 + 1 ≤ 140737488355328) :
    ∃ A' c' V', (Builtin.append_ #[30, 30] ty #[.slice A6 n6 c6, .slice (some ⟨V.heap.size, 0, none⟩) 1 1]).run Try.prog (V.alloc (.cells #[.int .u8 (z.toNat : Nat)] 5)) = .ok (.slice A' (n6 + 1) c') V' ∧ PutB w V' cs A' (n6 + 1) c' (zs ++ [z]) := by
  obtain ⟨A', c', V', h1, h2, h3, h4⟩ := row_append (d := 1) ty (h.row.alloc (.cells #[.int .u8 (z.toNat : Nat)] 5)) (bytes_new V [z] (0, 0)) hl
  have hs := h.box2.lt
  have ho := h.old.size
  refine ⟨A', c', V', h1, (h3.block _ (by simp; omega) (fun hj => by have := h.far _ hj; omega)).trans (h.box.alloc _), (h3.block _ (by simp; omega) (fun hj => by have := h.far _ hj; omega)).trans (h.box2.alloc _), h2, fun j hj => ?_, ?_⟩
  · rcases h4 j hj with h5 | h5
    · exact h.far j h5
    · simp at h5; omega
  · exact (h.old.trans (((Below.refl V.heap.size V).alloc (Nat.le_refl _) _).mono ho)).trans (h3.below (by simp; omega) (fun j hj => by have := h.far j hj; omega))
def P1 (w : World) (cs : Array Value) (n : Nat) (bs : List UInt8) (v i : Value) (V : World) : Prop := ∃ (j : Nat) (A6 : Option Addr) (c6 : Nat), j ≤ n ∧ i = .int .i64 (j : Nat) ∧ v = .slice A6 j c6 ∧ PutB w V cs A6 j c6 (bs.take j)
def P2 (w : World) (cs : Array Value) (n m : Nat) (bs xs : List UInt8) (v i : Value) (V : World) : Prop := ∃ (j : Nat) (A6 : Option Addr) (c6 : Nat), j ≤ m ∧ i = .int .i64 (j : Nat) ∧ v = .slice A6 (n + j) c6 ∧ PutB w V cs A6 (n + j) c6 (bs ++ xs.take j)
def P3 (w : World) (cs : Array Value) (n m most : Nat) (ys : List UInt8) (v i : Value) (V : World) : Prop := ∃ (j : Nat) (A6 : Option Addr) (c6 : Nat), j ≤ n + m - most ∧ i = .int .i64 (j : Nat) ∧ v = .slice A6 (n + m - j) c6 ∧ PutB w V cs A6 (n + m - j) c6 (ys.drop j)
theorem take_snoc9 {xs : List UInt8} {j : Nat} {z : UInt8} (h : xs[j]? = some z) : xs.take (j + 1) = xs.take j ++ [z] := by
  obtain ⟨hl, rfl⟩ := List.getElem?_eq_some_iff.1 h
  exact List.take_succ_eq_append_getElem hl
def RPutP (w : World) (most : Nat) (gone : Int) (q L : Nat) (zs : List UInt8) (e : Ending) (w' : World) : Prop := ∃ A' c', e = .returned (.tuple #[.agg #[.int .i64 (most : Nat), .slice A' L c', .int .i64 gone], .int .i64 (q : Nat)]) ∧ RowAt w' A' L c' zs ∧ (∀ j, InB A' j → w.heap.size ≤ j) ∧ Below w.heap.size w w'
set_option maxHeartbeats 4000000 in
set_option maxRecDepth 100000 in
theorem rbput_any (hr : RowAt w A n c bs) (hx : BytesAt w B m xs) (hn : n ≤ 1000000) (hm : m ≤ 1000000) (h1 : 1 ≤ most) (hg0 : 0 ≤ gone) (hg1 : gone ≤ 1000000000000) :
    Calls Try.prog 46 #[.agg #[.int .i64 (most : Nat), .slice A n c, .int .i64 gone], .slice B m d] w (RPutP w most (gone + ((n + m - most : Nat) : Int)) (n + m - most) ((bs ++ xs).length - (n + m - most)) ((bs ++ xs).drop (n + m - most))) := by
  have hbl := hr.len
  have hxl := hx.1
  have hby := hr.bytes
  obtain ⟨L2, hL2⟩ : ∃ L2, L2 = (bs ++ xs).length - (n + m - most) := ⟨_, rfl⟩
  rw [← hL2]
  have HL2 := Lib.hid hL2
  clear hL2
  obtain ⟨cs, hcs⟩ : ∃ cs : Array Value, cs = #[.int .i64 (most : Nat), .slice A n c, .int .i64 gone] := ⟨_, rfl⟩
  have HCS := Lib.hid hcs
  have HR := Lib.hid hby
  have HX := Lib.hid hx
  have HBL := Lib.hid hbl
  have HXL := Lib.hid hxl
  have HP0 := Lib.hid (show PutB w (((w.alloc (.cells #[.int .i64 (most : Nat), .slice A n c, .int .i64 gone] 85)).alloc (.cells #[.int .i64 0, .slice none 0 0, .int .i64 0] 85)).alloc (.cells #[] 5)) cs (some ⟨w.heap.size + 2, 0, none⟩) 0 0 [] from by
    subst hcs
    refine ⟨((Blk.new w _ _).alloc _).alloc _, ?_, ?_, fun j hj => by obtain ⟨o, e⟩ := hj; injection e with e; injection e with e _ _; omega, (((Below.refl _ w).alloc (Nat.le_refl _) _).alloc (by simp) _).alloc (by simp; omega) _⟩
    · have := (Blk.new (w.alloc (.cells #[.int .i64 (most : Nat), .slice A n c, .int .i64 gone] 85)) 85 #[.int .i64 0, .slice none 0 0, .int .i64 0]).alloc (.cells #[] 5)
      simpa using this
    · have := row_empty ((w.alloc (.cells #[.int .i64 (most : Nat), .slice A n c, .int .i64 gone] 85)).alloc (.cells #[.int .i64 0, .slice none 0 0, .int .i64 0] 85))
      simpa using this)
  have BX := Lib.hid (fun (V : World) (A6 : Option Addr) (n6 c6 : Nat) (zs : List UInt8) (h : PutB w V cs A6 n6 c6 zs) => show Blk V w.heap.size 85 #[.int .i64 (most : Nat), .slice A n c, .int .i64 gone] from HCS.out ▸ h.box)
  clear hr hx hby hbl hxl hcs
  go_enter Try.func46, Try.ntmps46
  go_wp2_with fail
  go_loopw [6, 7] (fun v i wr => P1 w cs n bs v i wr) (fun _ i _ => n - (intOf i).toNat)
  case atStart => exact ⟨0, _, 0, Nat.zero_le _, rfl, rfl, HP0.out⟩
  case round =>
    clear HP0
    obtain ⟨j, A6, c6, hj, rfl, rfl, hP⟩ := hrel
    obtain ⟨q0, q1, q2, -, -, -⟩ := blk3 (BX.out _ _ _ _ _ hP)
    by_cases hlt : j < n
    · have hlt' : (j : Int) < (n : Int) := by omega
      obtain ⟨b, o, rfl, hbw, hcells⟩ := HR.out.2 (by omega)
      obtain ⟨z, hz⟩ : ∃ z, bs[j]? = some z := ⟨bs[j]'(by have := HBL.out; omega), List.getElem?_eq_getElem _⟩
      have y1 : wr.cell? ⟨b, o + j, none⟩ = some (.int .u8 (z.toNat : Nat)) := by rw [hP.old.cell (p := ⟨b, o + j, none⟩) hbw]; exact hcells j z hz
      obtain ⟨A7, c7, W7, hrun, hP7⟩ := hP.push 30 z (by omega)
      rw [← take_snoc9 hz] at hP7
      have HRUN := Lib.hid hrun
      have HP7 := Lib.hid (show P1 w cs n bs (.slice A7 (j + 1) c7) (.int .i64 ((j + 1 : Nat) : Int)) W7 from ⟨j + 1, A7, c7, by omega, rfl, rfl, hP7⟩)
      have hzl := UInt8.toNat_lt z
      clear hcells hz hrun hP7 hP
      go_wp2_with (at_builtin; refine wpList_append_run rfl (.tmp 18) (.tmp 24) 30 rfl _ _ _ rfl rfl HRUN.out ?_)
      go_roundw
      case rel =>
        have := HP7.out
        rw [show (((j + 1 : Nat)) : Int) = (j : Int) + 1 by omega] at this
        exact this
      case measure => simp [intOf]; omega
    · have hlt' : ¬ (j : Int) < (n : Int) := by omega
      obtain rfl : n = j := by omega
      have HP := Lib.hid (show P2 w cs n m bs xs (.slice A6 n c6) (.int .i64 0) wr from ⟨0, A6, c6, Nat.zero_le _, rfl, rfl, by
        rw [List.take_zero, List.append_nil]
        rw [List.take_of_length_le (by rw [HBL.out]; omega)] at hP
        exact hP⟩)
      clear hP
      go_wp2_with fail
      go_loopw [6, 8] (fun v i wr => P2 w cs n m bs xs v i wr) (fun _ i _ => m - (intOf i).toNat)
      case atStart => exact HP.out
      case round =>
        clear HP q0 q1 q2
        obtain ⟨j, A6, c6, hj, rfl, rfl, hP⟩ := hrel
        obtain ⟨q0, q1, q2, -, -, -⟩ := blk3 (BX.out _ _ _ _ _ hP)
        by_cases hlt : j < m
        · have hlt' : (j : Int) < (m : Int) := by omega
          obtain ⟨b, o, rfl, hbw, hcells⟩ := HX.out.2 (by omega)
          obtain ⟨z, hz⟩ : ∃ z, xs[j]? = some z := ⟨xs[j]'(by have := HXL.out; omega), List.getElem?_eq_getElem _⟩
          have y1 : wr.cell? ⟨b, o + j, none⟩ = some (.int .u8 (z.toNat : Nat)) := by rw [hP.old.cell (p := ⟨b, o + j, none⟩) hbw]; exact hcells j z hz
          obtain ⟨A7, c7, W7, hrun, hP7⟩ := hP.push 30 z (by omega)
          rw [List.append_assoc, ← take_snoc9 hz] at hP7
          have HRUN := Lib.hid hrun
          have HP7 := Lib.hid (show P2 w cs n m bs xs (.slice A7 (n + j + 1) c7) (.int .i64 ((j + 1 : Nat) : Int)) W7 from ⟨j + 1, A7, c7, by omega, rfl, rfl, hP7⟩)
          have hzl := UInt8.toNat_lt z
          clear hcells hz hrun hP7 hP
          go_wp2_with (at_builtin; refine wpList_append_run rfl (.tmp 32) (.tmp 37) 30 rfl _ _ _ rfl rfl HRUN.out ?_)
          go_roundw
          case rel =>
            have := HP7.out
            rw [show (((j + 1 : Nat)) : Int) = (j : Int) + 1 by omega] at this
            exact this
          case measure => simp [intOf]; omega
        · have hlt' : ¬ (j : Int) < (m : Int) := by omega
          obtain rfl : m = j := by omega
          have HP := Lib.hid (show P3 w cs n m most (bs ++ xs) (.slice A6 (n + m) c6) (.int .i64 0) wr from ⟨0, A6, c6, Nat.zero_le _, rfl, rfl, by
            rw [List.take_of_length_le (by rw [HXL.out]; omega)] at hP
            exact hP⟩)
          clear hP
          go_wp2_with fail
          go_loopw [6, 9] (fun v i wr => P3 w cs n m most (bs ++ xs) v i wr) (fun _ i _ => n + m - (intOf i).toNat)
          case atStart => exact HP.out
          case round =>
            clear HP q0 q1 q2
            obtain ⟨j, A6, c6, hj, rfl, rfl, hP⟩ := hrel
            obtain ⟨L, hL⟩ : ∃ L, L = n + m - j := ⟨_, rfl⟩
            rw [← hL] at hP ⊢
            obtain ⟨q0, q1, q2, f0, f1, f2⟩ := blk3 (BX.out _ _ _ _ _ hP)
            by_cases hlt : j < n + m - most
            · have hlt' : (most : Int) < (L : Int) := by omega
              have h2c := hP.row.le
              have hc1 : ¬ c6 = 1 := by omega
              have hcm := hP.row.max
              unfold maxLen at hcm
              have hd := hP.row.drop (k := 1) (by omega)
              obtain ⟨A7, hA7⟩ : ∃ A7, Option.map (fun x : Addr => ({ block := x.block, off := x.off + 1 } : Addr)) A6 = A7 := ⟨_, rfl⟩
              have hb7 : behind A6 c6 1 = A7 := by unfold behind; rw [if_neg hc1, ← hA7]; rfl
              rw [List.drop_drop] at hd
              have HP7 := Lib.hid (show P3 w cs n m most (bs ++ xs) (.slice A7 (L - 1) (c6 - 1)) (.int .i64 ((j + 1 : Nat) : Int)) wr from
                ⟨j + 1, A7, c6 - 1, by omega, rfl, by rw [show L - 1 = n + m - (j + 1) by omega], ⟨hP.box, hP.box2, by rw [show n + m - (j + 1) = L - 1 by omega, ← hb7]; exact hd, fun i hi => hP.far i (hP.row.behind_in (hb7 ▸ hi)), hP.old⟩⟩)
              clear hd hb7 hP hL
              go_wp2_with fail
              go_roundw
              case rel =>
                have := HP7.out
                rw [show (((j + 1 : Nat)) : Int) = (j : Int) + 1 by omega] at this
                exact this
              case measure => simp [intOf]; omega
            · have hlt' : ¬ (most : Int) < (L : Int) := by omega
              have HQ := Lib.hid (show j = n + m - most by omega)
              obtain ⟨e0, e1, e2, l0, l1, l2⟩ := blk3 hP.box2
              have q5 : IntKind.i64.wrap (gone + (j : Int)) = gone + (j : Int) := IntWalk.i64_in _ (by omega)
              have HP := Lib.hid hP
              have HLL := Lib.hid hL
              have HBB := Lib.hid (BX.out _ _ _ _ _ hP)
              clear hP hL hlt
              go_wp2_with fail
              refine bodyPost_ret (v := .tuple #[.agg #[.int .i64 (most : Nat), .slice A6 L c6, .int .i64 (gone + (j : Nat))], .int .i64 (j : Nat)]) (by simp [results, Try.results46, go_sem, *]) rfl ?_
              have hyl : (bs ++ xs).length = n + m := by rw [List.length_append, HBL.out, HXL.out]
              have hP := HP.out
              have n0 : ¬ InB A6 w.heap.size := fun h => by have := hP.far _ h; omega
              have n1 : ¬ InB A6 (w.heap.size + 1) := fun h => by have := hP.far _ h; omega
              have hr5 := ((((hP.row.set_ (p := ⟨w.heap.size, 1, none⟩) n0 (.slice A6 L c6)).set_ (p := ⟨w.heap.size, 2, none⟩) n0 (.int .i64 (gone + (j : Nat)))).set_ (p := ⟨w.heap.size + 1, 0, none⟩) n1 (.int .i64 (most : Nat))).set_ (p := ⟨w.heap.size + 1, 1, none⟩) n1 (.slice A6 L c6)).set_ (p := ⟨w.heap.size + 1, 2, none⟩) n1 (.int .i64 (gone + (j : Nat)))
              have hb5 := ((((hP.old.setCell (p := ⟨w.heap.size, 1, none⟩) (Nat.le_refl _) (.slice A6 L c6)).setCell (p := ⟨w.heap.size, 2, none⟩) (Nat.le_refl _) (.int .i64 (gone + (j : Nat)))).setCell (p := ⟨w.heap.size + 1, 0, none⟩) (Nat.le_succ _) (.int .i64 (most : Nat))).setCell (p := ⟨w.heap.size + 1, 1, none⟩) (Nat.le_succ _) (.slice A6 L c6)).setCell (p := ⟨w.heap.size + 1, 2, none⟩) (Nat.le_succ _) (.int .i64 (gone + (j : Nat)))
              have hL2 : L2 = L := by rw [HL2.out, hyl, HLL.out, HQ.out]
              rw [← HQ.out]
              exact ⟨A6, c6, by rw [hL2], by rw [hL2]; exact hr5, fun i hi => by have := hP.far i hi; omega, hb5⟩
end
end Go.Proofs.Ytmcapiikplflkaa
