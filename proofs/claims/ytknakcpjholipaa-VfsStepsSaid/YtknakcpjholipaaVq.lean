/- VfsSteps answers true. -/
import Derived.Test.YtknakcpjholipaaVp
namespace Go.Proofs.Ytknakcpjholipaa
open Go.RowKit Go.Maps Go.Sort

def eqS (a b : Sta) : Bool := decide (a.V = b.V) && decide (a.free = b.free) && decide (a.fuse = b.fuse) && (a.down == b.down)
theorem eqS_eq {a b : Sta} (h : eqS a b = true) : a = b := by
  unfold eqS at h
  simp only [Bool.and_eq_true, decide_eq_true_eq, beq_iff_eq] at h
  obtain ⟨⟨⟨h1, h2⟩, h3⟩, h4⟩ := h
  cases a; cases b; simp_all
def vnm (k : Nat) : List UInt8 := [UInt8.ofNat (97 + k)]
def stV (k : Nat) : List (List UInt8 × List UInt8 × Nat) := (List.range k).map fun j => (vnm j, ([] : List UInt8), 0)
def st (f i : Nat) : Sta := if i < f then ⟨stV i, 1000, f - i, false⟩ else ⟨stV (f - 1), 1000, 1, true⟩
def st2 (f : Nat) : Sta := ⟨stV (f - 1), 1000, 0, false⟩
def noneN : List UInt8 := [110, 111, 110, 101]
def chk (f i : Nat) : Bool :=
  (decide ((createS (vnm i) (st f i)).1 = if i + 1 < f then 0 else 70) && eqS (createS (vnm i) (st f i)).2 (st f (i + 1))) && eqS (removeS noneN (st f i)).2 (st f i) && eqS (createS [] (st f i)).2 (st f i) && eqS (appendS noneN [] (st f i)).2 (st f i)
theorem chk_all : ((List.range 16).all fun f => (List.range 20).all fun i => chk (f + 1) i) = true := by decide +kernel
theorem chk_end : ((List.range 16).all fun f => eqS (crashS [] (st (f + 1) 20)) (st2 (f + 1)) && decide ((createS [122] (st2 (f + 1))).1 = 0)) = true := by decide +kernel
theorem chk_at {f i : Nat} (h1 : 1 ≤ f) (h2 : f ≤ 16) (hi : i < 20) : createS (vnm i) (st f i) = (if i + 1 < f then 0 else 70, st f (i + 1)) ∧ (removeS noneN (st f i)).2 = st f i ∧ (createS [] (st f i)).2 = st f i ∧ (appendS noneN [] (st f i)).2 = st f i := by
  have h := List.all_eq_true.1 chk_all (f - 1) (List.mem_range.2 (by omega))
  have h := List.all_eq_true.1 h i (List.mem_range.2 hi)
  rw [show f - 1 + 1 = f by omega] at h
  unfold chk at h
  simp only [Bool.and_eq_true, decide_eq_true_eq] at h
  obtain ⟨⟨⟨⟨a1, a2⟩, a3⟩, a4⟩, a5⟩ := h
  exact ⟨Prod.ext a1 (eqS_eq a2), eqS_eq a3, eqS_eq a4, eqS_eq a5⟩
theorem chk_fin {f : Nat} (h1 : 1 ≤ f) (h2 : f ≤ 16) : crashS [] (st f 20) = st2 f ∧ (createS [122] (st2 f)).1 = 0 := by
  have h := List.all_eq_true.1 chk_end (f - 1) (List.mem_range.2 (by omega))
  rw [show f - 1 + 1 = f by omega] at h
  simp only [Bool.and_eq_true, decide_eq_true_eq] at h
  exact ⟨eqS_eq h.1, h.2⟩
theorem tot_zero : ∀ {V : List (List UInt8 × List UInt8 × Nat)}, (∀ t ∈ V, t.2.1 = []) → tot V = 0
  | [], _ => rfl
  | t :: r, h => by
    rw [tot_cons, h t (List.mem_cons_self ..), tot_zero fun t ht => h t (List.mem_cons_of_mem _ ht)]; rfl
theorem stV_ok {k fu : Nat} {d : Bool} (hk : k ≤ 20) (hf : fu ≤ 20) : Ok ⟨stV k, 1000, fu, d⟩ := by
  have e : ∀ t ∈ stV k, t.2.1 = [] ∧ t.1.length = 1 := fun t ht => by
    obtain ⟨j, _, rfl⟩ := List.mem_map.1 ht
    exact ⟨rfl, rfl⟩
  have e2 : tot (stV k) = 0 := tot_zero fun t ht => (e t ht).1
  refine ⟨by simp [stV]; omega, by rw [e2]; omega, ?_, by show fu ≤ _; omega, fun t ht => by rw [(e t ht).2]; decide⟩
  show 1000 + tot (stV k) ≤ _
  rw [e2]; omega
theorem st_ok {f i : Nat} (h2 : f ≤ 16) (hi : i ≤ 20) : Ok (st f i) := by
  unfold st
  split
  · exact stV_ok hi (by omega)
  · exact stV_ok (by omega) (by omega)
theorem and_le (a b : Int) (n : Nat) (hb : b = (n : Int)) (hn : n < 4611686018427387904) : 0 ≤ bits BinOp.and IntKind.i64 a b ∧ bits BinOp.and IntKind.i64 a b ≤ n := by
  have hbn : (BitVec.ofInt 64 b).toNat = n := by
    rw [hb, BitVec.toNat_ofInt]; omega
  have h : (BitVec.ofInt 64 a &&& BitVec.ofInt 64 b).toNat ≤ n := by
    rw [BitVec.toNat_and]
    exact Nat.le_trans Nat.and_le_right (Nat.le_of_eq hbn)
  show 0 ≤ IntKind.i64.wrap ((BitVec.ofInt 64 a &&& BitVec.ofInt 64 b).toNat : Int) ∧ IntKind.i64.wrap ((BitVec.ofInt 64 a &&& BitVec.ofInt 64 b).toNat : Int) ≤ n
  rw [IntWalk.i64_in _ (by omega)]; omega
theorem vnm_cells (j : Nat) (hj : j < 20) : (vnm j).map u8V = [.int .u8 (97 + (j : Int))] := by
  have : (UInt8.ofNat (97 + j)).toNat = 97 + j := by simp; omega
  unfold vnm
  simp only [List.map_cons, List.map_nil, u8V, this]
  simp
theorem nil_bytes (w : World) : BytesAt w none 0 [] := ⟨rfl, fun h => by omega⟩
theorem nil_ints (w : World) : IntsAt w none 0 [] := ⟨rfl, fun h => by omega⟩
def SInv (w : World) (dp f : Nat) (dn i : Value) (wr : World) : Prop := ∃ (j : Nat) (X : Nat → Prop), j ≤ 20 ∧ i = .int .i64 (j : Nat) ∧ dn = .int .i64 ((min j (f - 1) : Nat) : Int) ∧ DB w wr dp X (st f j)
set_option maxHeartbeats 8000000 in
set_option maxRecDepth 100000 in
theorem vfsSteps_walk (a : Int) (A : Option Addr) (n c : Nat) (zs : List Int) (w : World) (hz : IntsAt w A n zs) (hn : n ≤ maxLen) :
    Calls Try.prog 7 #[.int .i64 a, .slice A n c] w fun e w' => e = .returned (.bool true) ∧ Below w.heap.size w w' := by
  have hand := and_le a 15 15 rfl (by decide)
  obtain ⟨f, hf⟩ : ∃ f : Nat, (f : Int) = 1 + bits BinOp.and IntKind.i64 a 15 := ⟨(1 + bits BinOp.and IntKind.i64 a 15).toNat, by omega⟩
  have hf1 : 1 ≤ f := by omega
  have hf2 : f ≤ 16 := by omega
  have hwr : IntKind.i64.wrap (1 + bits BinOp.and IntKind.i64 a 15) = (f : Int) := by rw [IntWalk.i64_in _ (by omega), hf]
  have HF := Lib.hid hf
  have HWR := Lib.hid hwr
  have hzl := hz.1
  clear hf hwr
  go_enter Try.func7, Try.ntmps7
  go_wp2_with fail
  refine (new_disk 1000 _).mono ?_
  rintro e w1 ⟨dp, X1, rfl, h1⟩
  rw [show posP 1000 = 1000 from rfl] at h1
  go_wp2_with fail
  refine (alive_any _).mono ?_
  rintro e w2 ⟨rfl, b2⟩
  have h2 := h1.below b2
  have C3 := Lib.hid (h2.disk.fail (f : Nat))
  rw [show (⟨[], 1000, 0, false⟩ : Sta).V = [] from rfl, show posP ((f : Nat) : Int) = f from by unfold posP; omega] at C3
  clear h1 b2
  go_wp2_with fail
  try rw [← HF.out]
  refine C3.out.mono ?_
  rintro e w3 ⟨rfl, ha⟩
  obtain ⟨X3, h3, _, _⟩ := h2.after ha
  have h3' : DB w w3 dp X3 (st f 0) := by
    have : st f 0 = ⟨[], 1000, f, false⟩ := by unfold st; rw [if_pos (by omega)]; rfl
    rw [this]; exact h3
  clear ha C3 h2 h3
  go_wp2_with fail
  go_loopw [6, 7] (fun dn i wr => SInv w dp f dn i wr) (fun _ i _ => 20 - (intOf i).toNat)
  case atStart => exact ⟨0, X3, Nat.zero_le _, rfl, by rw [Nat.zero_min]; rfl, h3'⟩
  case round =>
    obtain ⟨j, X, hj, rfl, rfl, hD⟩ := hrel
    by_cases hlt : j < 20
    · have hlt' : (j : Int) < 20 := by omega
      have hj0 : (0 : Int) ≤ (j : Int) := by omega
      obtain ⟨q1, q2, q3, q4⟩ := chk_at hf1 hf2 hlt
      have hok := st_ok hf2 hj
      have Q1 := Lib.hid q1
      have Q2 := Lib.hid q2
      have Q3 := Lib.hid q3
      have Q4 := Lib.hid q4
      have hw8 : IntKind.u8.wrap (97 + (j : Int)) = 97 + (j : Int) := by unfold IntKind.wrap; simp [IntKind.bits, IntKind.signed]; omega
      clear q1 q2 q3 q4
      by_cases hjn : j < n
      · have hjn' : (j : Int) < (n : Int) := by omega
        obtain ⟨bb, oo, rfl, hX, hcs⟩ := hz.2 (by omega)
        obtain ⟨z, hzj⟩ : ∃ z, zs[j]? = some z := ⟨zs[j]'(by omega), List.getElem?_eq_getElem _⟩
        have y0 : wr.cell? ⟨bb, oo + j, none⟩ = some (.int .i64 z) := by
          rw [hD.old.cell (p := ⟨bb, oo + j, none⟩) hX]; exact hcs j z hzj
        have hb3 := and_le z 3 3 rfl (by decide)
        clear hcs hzj
        obtain ⟨q, hq⟩ : ∃ q, q = bits BinOp.and IntKind.i64 z 3 := ⟨_, rfl⟩
        have hq4 : q = 0 ∨ q = 1 ∨ q = 2 ∨ q = 3 := by omega
        clear hb3
        rcases hq4 with hq0 | hq0 | hq0 | hq0
        · have hqz : bits BinOp.and IntKind.i64 z 3 = 0 := by rw [← hq, hq0]
          clear hq hq0
          have C0 := Lib.hid (hD.disk.remove hok ⟨#[110, 111, 110, 101]⟩ (by decide))
          go_wp2_with fail
          refine C0.out.mono ?_
          rintro e W2 ⟨rfl, ha⟩
          obtain ⟨X2, hE, _, _⟩ := hD.after ha
          have hE2 : DB w W2 dp X2 (st f j) := (congrArg (DB w W2 dp X2) Q2.out).mp hE
          clear ha C0 hE
          have hby : BytesAt (W2.alloc (.cells #[.int .u8 (97 + (j : Int))] 5)) (some ⟨W2.heap.size, 0, none⟩) 1 (vnm j) := by
            have := bytes_new W2 (vnm j) (0, 0)
            rw [vnm_cells j hlt] at this
            exact this
          have hst := conv_str hby 1
          have C9 := Lib.hid ((hE2.alloc (.cells #[.int .u8 (97 + (j : Int))] 5)).disk.create hok ⟨(vnm j).toArray⟩ (show 1 ≤ maxLen by decide))
          rw [show (⟨(vnm j).toArray⟩ : ByteArray).data.toList = vnm j by simp, Q1.out] at C9
          clear hby
          by_cases hcf : j + 1 < f
          · rw [if_pos hcf] at C9
            go_wp2_with fail
            refine C9.out.mono ?_
            rintro e w9 ⟨rfl, ha⟩
            obtain ⟨X9, h9, _, _⟩ := (hE2.alloc (.cells #[.int .u8 (97 + (j : Int))] 5)).after ha
            have hdn : (st f (j + 1)).down = false := by unfold st; rw [if_pos hcf]
            have C10 := Lib.hid h9.disk.down
            rw [hdn] at C10
            have hm1 : ((min j (f - 1) : Nat) : Int) = (j : Int) := by omega
            have hm2 : ((min (j + 1) (f - 1) : Nat) : Int) = (j : Int) + 1 := by omega
            rw [hm1]
            have HM2 := Lib.hid hm2
            clear ha C9 hdn hm1 hm2
            go_wp2_with fail
            refine C10.out.mono ?_
            rintro e w10 ⟨rfl, rfl⟩
            go_wp2
            go_roundw
            case rel => exact ⟨j + 1, X9, by omega, by go_num, by rw [HM2.out], h9⟩
            case measure => simp [intOf]; omega
          · rw [if_neg hcf] at C9
            go_wp2_with fail
            refine C9.out.mono ?_
            rintro e w9 ⟨rfl, ha⟩
            obtain ⟨X9, h9, _, _⟩ := (hE2.alloc (.cells #[.int .u8 (97 + (j : Int))] 5)).after ha
            have hdn : (st f (j + 1)).down = true := by unfold st; rw [if_neg hcf]
            have C10 := Lib.hid h9.disk.down
            rw [hdn] at C10
            have hm1 : ((min j (f - 1) : Nat) : Int) = (f : Int) - 1 := by omega
            have hm2 : ((min (j + 1) (f - 1) : Nat) : Int) = (f : Int) - 1 := by omega
            have hlt9 : (f : Int) - 1 < (j : Int) + 1 := by omega
            rw [hm1]
            have HM2 := Lib.hid hm2
            clear ha C9 hdn hm1 hm2
            go_wp2_with fail
            refine C10.out.mono ?_
            rintro e w10 ⟨rfl, rfl⟩
            go_wp2
            go_roundw
            case rel => exact ⟨j + 1, X9, by omega, by go_num, by rw [HM2.out], h9⟩
            case measure => simp [intOf]; omega
        · have hqz : bits BinOp.and IntKind.i64 z 3 = 1 := by rw [← hq, hq0]
          clear hq hq0
          have C0 := Lib.hid (hD.disk.create hok ⟨#[]⟩ (by decide))
          go_wp2_with fail
          refine C0.out.mono ?_
          rintro e W2 ⟨rfl, ha⟩
          obtain ⟨X2, hE, _, _⟩ := hD.after ha
          have hE2 : DB w W2 dp X2 (st f j) := (congrArg (DB w W2 dp X2) Q3.out).mp hE
          clear ha C0 hE
          have hby : BytesAt (W2.alloc (.cells #[.int .u8 (97 + (j : Int))] 5)) (some ⟨W2.heap.size, 0, none⟩) 1 (vnm j) := by
            have := bytes_new W2 (vnm j) (0, 0)
            rw [vnm_cells j hlt] at this
            exact this
          have hst := conv_str hby 1
          have C9 := Lib.hid ((hE2.alloc (.cells #[.int .u8 (97 + (j : Int))] 5)).disk.create hok ⟨(vnm j).toArray⟩ (show 1 ≤ maxLen by decide))
          rw [show (⟨(vnm j).toArray⟩ : ByteArray).data.toList = vnm j by simp, Q1.out] at C9
          clear hby
          by_cases hcf : j + 1 < f
          · rw [if_pos hcf] at C9
            go_wp2_with fail
            refine C9.out.mono ?_
            rintro e w9 ⟨rfl, ha⟩
            obtain ⟨X9, h9, _, _⟩ := (hE2.alloc (.cells #[.int .u8 (97 + (j : Int))] 5)).after ha
            have hdn : (st f (j + 1)).down = false := by unfold st; rw [if_pos hcf]
            have C10 := Lib.hid h9.disk.down
            rw [hdn] at C10
            have hm1 : ((min j (f - 1) : Nat) : Int) = (j : Int) := by omega
            have hm2 : ((min (j + 1) (f - 1) : Nat) : Int) = (j : Int) + 1 := by omega
            rw [hm1]
            have HM2 := Lib.hid hm2
            clear ha C9 hdn hm1 hm2
            go_wp2_with fail
            refine C10.out.mono ?_
            rintro e w10 ⟨rfl, rfl⟩
            go_wp2
            go_roundw
            case rel => exact ⟨j + 1, X9, by omega, by go_num, by rw [HM2.out], h9⟩
            case measure => simp [intOf]; omega
          · rw [if_neg hcf] at C9
            go_wp2_with fail
            refine C9.out.mono ?_
            rintro e w9 ⟨rfl, ha⟩
            obtain ⟨X9, h9, _, _⟩ := (hE2.alloc (.cells #[.int .u8 (97 + (j : Int))] 5)).after ha
            have hdn : (st f (j + 1)).down = true := by unfold st; rw [if_neg hcf]
            have C10 := Lib.hid h9.disk.down
            rw [hdn] at C10
            have hm1 : ((min j (f - 1) : Nat) : Int) = (f : Int) - 1 := by omega
            have hm2 : ((min (j + 1) (f - 1) : Nat) : Int) = (f : Int) - 1 := by omega
            have hlt9 : (f : Int) - 1 < (j : Int) + 1 := by omega
            rw [hm1]
            have HM2 := Lib.hid hm2
            clear ha C9 hdn hm1 hm2
            go_wp2_with fail
            refine C10.out.mono ?_
            rintro e w10 ⟨rfl, rfl⟩
            go_wp2
            go_roundw
            case rel => exact ⟨j + 1, X9, by omega, by go_num, by rw [HM2.out], h9⟩
            case measure => simp [intOf]; omega
        · have hqz : bits BinOp.and IntKind.i64 z 3 = 2 := by rw [← hq, hq0]
          clear hq hq0
          have C0 := Lib.hid (hD.disk.append (c := 0) hok ⟨#[110, 111, 110, 101]⟩ (by decide) (nil_bytes _) (fun b o e => by cases e) (by decide))
          go_wp2_with fail
          refine C0.out.mono ?_
          rintro e W2 ⟨rfl, ha⟩
          obtain ⟨X2, hE, _, _⟩ := hD.after ha
          have hE2 : DB w W2 dp X2 (st f j) := (congrArg (DB w W2 dp X2) Q4.out).mp hE
          clear ha C0 hE
          have hby : BytesAt (W2.alloc (.cells #[.int .u8 (97 + (j : Int))] 5)) (some ⟨W2.heap.size, 0, none⟩) 1 (vnm j) := by
            have := bytes_new W2 (vnm j) (0, 0)
            rw [vnm_cells j hlt] at this
            exact this
          have hst := conv_str hby 1
          have C9 := Lib.hid ((hE2.alloc (.cells #[.int .u8 (97 + (j : Int))] 5)).disk.create hok ⟨(vnm j).toArray⟩ (show 1 ≤ maxLen by decide))
          rw [show (⟨(vnm j).toArray⟩ : ByteArray).data.toList = vnm j by simp, Q1.out] at C9
          clear hby
          by_cases hcf : j + 1 < f
          · rw [if_pos hcf] at C9
            go_wp2_with fail
            refine C9.out.mono ?_
            rintro e w9 ⟨rfl, ha⟩
            obtain ⟨X9, h9, _, _⟩ := (hE2.alloc (.cells #[.int .u8 (97 + (j : Int))] 5)).after ha
            have hdn : (st f (j + 1)).down = false := by unfold st; rw [if_pos hcf]
            have C10 := Lib.hid h9.disk.down
            rw [hdn] at C10
            have hm1 : ((min j (f - 1) : Nat) : Int) = (j : Int) := by omega
            have hm2 : ((min (j + 1) (f - 1) : Nat) : Int) = (j : Int) + 1 := by omega
            rw [hm1]
            have HM2 := Lib.hid hm2
            clear ha C9 hdn hm1 hm2
            go_wp2_with fail
            refine C10.out.mono ?_
            rintro e w10 ⟨rfl, rfl⟩
            go_wp2
            go_roundw
            case rel => exact ⟨j + 1, X9, by omega, by go_num, by rw [HM2.out], h9⟩
            case measure => simp [intOf]; omega
          · rw [if_neg hcf] at C9
            go_wp2_with fail
            refine C9.out.mono ?_
            rintro e w9 ⟨rfl, ha⟩
            obtain ⟨X9, h9, _, _⟩ := (hE2.alloc (.cells #[.int .u8 (97 + (j : Int))] 5)).after ha
            have hdn : (st f (j + 1)).down = true := by unfold st; rw [if_neg hcf]
            have C10 := Lib.hid h9.disk.down
            rw [hdn] at C10
            have hm1 : ((min j (f - 1) : Nat) : Int) = (f : Int) - 1 := by omega
            have hm2 : ((min (j + 1) (f - 1) : Nat) : Int) = (f : Int) - 1 := by omega
            have hlt9 : (f : Int) - 1 < (j : Int) + 1 := by omega
            rw [hm1]
            have HM2 := Lib.hid hm2
            clear ha C9 hdn hm1 hm2
            go_wp2_with fail
            refine C10.out.mono ?_
            rintro e w10 ⟨rfl, rfl⟩
            go_wp2
            go_roundw
            case rel => exact ⟨j + 1, X9, by omega, by go_num, by rw [HM2.out], h9⟩
            case measure => simp [intOf]; omega
        · have hqz : bits BinOp.and IntKind.i64 z 3 = 3 := by rw [← hq, hq0]
          clear hq hq0
          obtain ⟨W2, hW2⟩ : ∃ W2, W2 = wr := ⟨_, rfl⟩
          subst hW2
          have hby : BytesAt (W2.alloc (.cells #[.int .u8 (97 + (j : Int))] 5)) (some ⟨W2.heap.size, 0, none⟩) 1 (vnm j) := by
            have := bytes_new W2 (vnm j) (0, 0)
            rw [vnm_cells j hlt] at this
            exact this
          have hst := conv_str hby 1
          have C9 := Lib.hid ((hD.alloc (.cells #[.int .u8 (97 + (j : Int))] 5)).disk.create hok ⟨(vnm j).toArray⟩ (show 1 ≤ maxLen by decide))
          rw [show (⟨(vnm j).toArray⟩ : ByteArray).data.toList = vnm j by simp, Q1.out] at C9
          clear hby
          by_cases hcf : j + 1 < f
          · rw [if_pos hcf] at C9
            go_wp2_with fail
            refine C9.out.mono ?_
            rintro e w9 ⟨rfl, ha⟩
            obtain ⟨X9, h9, _, _⟩ := (hD.alloc (.cells #[.int .u8 (97 + (j : Int))] 5)).after ha
            have hdn : (st f (j + 1)).down = false := by unfold st; rw [if_pos hcf]
            have C10 := Lib.hid h9.disk.down
            rw [hdn] at C10
            have hm1 : ((min j (f - 1) : Nat) : Int) = (j : Int) := by omega
            have hm2 : ((min (j + 1) (f - 1) : Nat) : Int) = (j : Int) + 1 := by omega
            rw [hm1]
            have HM2 := Lib.hid hm2
            clear ha C9 hdn hm1 hm2
            go_wp2_with fail
            refine C10.out.mono ?_
            rintro e w10 ⟨rfl, rfl⟩
            go_wp2
            go_roundw
            case rel => exact ⟨j + 1, X9, by omega, by go_num, by rw [HM2.out], h9⟩
            case measure => simp [intOf]; omega
          · rw [if_neg hcf] at C9
            go_wp2_with fail
            refine C9.out.mono ?_
            rintro e w9 ⟨rfl, ha⟩
            obtain ⟨X9, h9, _, _⟩ := (hD.alloc (.cells #[.int .u8 (97 + (j : Int))] 5)).after ha
            have hdn : (st f (j + 1)).down = true := by unfold st; rw [if_neg hcf]
            have C10 := Lib.hid h9.disk.down
            rw [hdn] at C10
            have hm1 : ((min j (f - 1) : Nat) : Int) = (f : Int) - 1 := by omega
            have hm2 : ((min (j + 1) (f - 1) : Nat) : Int) = (f : Int) - 1 := by omega
            have hlt9 : (f : Int) - 1 < (j : Int) + 1 := by omega
            rw [hm1]
            have HM2 := Lib.hid hm2
            clear ha C9 hdn hm1 hm2
            go_wp2_with fail
            refine C10.out.mono ?_
            rintro e w10 ⟨rfl, rfl⟩
            go_wp2
            go_roundw
            case rel => exact ⟨j + 1, X9, by omega, by go_num, by rw [HM2.out], h9⟩
            case measure => simp [intOf]; omega
      · have hjn' : ¬ (j : Int) < (n : Int) := by omega
        obtain ⟨W2, hW2⟩ : ∃ W2, W2 = wr := ⟨_, rfl⟩
        subst hW2
        have hby : BytesAt (W2.alloc (.cells #[.int .u8 (97 + (j : Int))] 5)) (some ⟨W2.heap.size, 0, none⟩) 1 (vnm j) := by
          have := bytes_new W2 (vnm j) (0, 0)
          rw [vnm_cells j hlt] at this
          exact this
        have hst := conv_str hby 1
        have C9 := Lib.hid ((hD.alloc (.cells #[.int .u8 (97 + (j : Int))] 5)).disk.create hok ⟨(vnm j).toArray⟩ (show 1 ≤ maxLen by decide))
        rw [show (⟨(vnm j).toArray⟩ : ByteArray).data.toList = vnm j by simp, Q1.out] at C9
        clear hby
        by_cases hcf : j + 1 < f
        · rw [if_pos hcf] at C9
          go_wp2_with fail
          refine C9.out.mono ?_
          rintro e w9 ⟨rfl, ha⟩
          obtain ⟨X9, h9, _, _⟩ := (hD.alloc (.cells #[.int .u8 (97 + (j : Int))] 5)).after ha
          have hdn : (st f (j + 1)).down = false := by unfold st; rw [if_pos hcf]
          have C10 := Lib.hid h9.disk.down
          rw [hdn] at C10
          have hm1 : ((min j (f - 1) : Nat) : Int) = (j : Int) := by omega
          have hm2 : ((min (j + 1) (f - 1) : Nat) : Int) = (j : Int) + 1 := by omega
          rw [hm1]
          have HM2 := Lib.hid hm2
          clear ha C9 hdn hm1 hm2
          go_wp2_with fail
          refine C10.out.mono ?_
          rintro e w10 ⟨rfl, rfl⟩
          go_wp2
          go_roundw
          case rel => exact ⟨j + 1, X9, by omega, by go_num, by rw [HM2.out], h9⟩
          case measure => simp [intOf]; omega
        · rw [if_neg hcf] at C9
          go_wp2_with fail
          refine C9.out.mono ?_
          rintro e w9 ⟨rfl, ha⟩
          obtain ⟨X9, h9, _, _⟩ := (hD.alloc (.cells #[.int .u8 (97 + (j : Int))] 5)).after ha
          have hdn : (st f (j + 1)).down = true := by unfold st; rw [if_neg hcf]
          have C10 := Lib.hid h9.disk.down
          rw [hdn] at C10
          have hm1 : ((min j (f - 1) : Nat) : Int) = (f : Int) - 1 := by omega
          have hm2 : ((min (j + 1) (f - 1) : Nat) : Int) = (f : Int) - 1 := by omega
          have hlt9 : (f : Int) - 1 < (j : Int) + 1 := by omega
          rw [hm1]
          have HM2 := Lib.hid hm2
          clear ha C9 hdn hm1 hm2
          go_wp2_with fail
          refine C10.out.mono ?_
          rintro e w10 ⟨rfl, rfl⟩
          go_wp2
          go_roundw
          case rel => exact ⟨j + 1, X9, by omega, by go_num, by rw [HM2.out], h9⟩
          case measure => simp [intOf]; omega
    · have hlt' : ¬ (j : Int) < 20 := by omega
      obtain rfl : j = 20 := by omega
      have hmin : ((min 20 (f - 1) : Nat) : Int) = (f : Int) - 1 := by omega
      have HL7 := Lib.hid (show ((f - 1 : Nat) : Int) = (f : Int) - 1 by omega)
      obtain ⟨e1, e2⟩ := chk_fin hf1 hf2
      have C4 := Lib.hid (hD.disk.crash (st_ok hf2 (Nat.le_refl _)) none 0 0 [] (nil_ints _) (by decide) (fun b o e => by cases e))
      rw [e1] at C4
      have hsw : IntKind.i64.wrap ((f : Int) - 1) = (f : Int) - 1 := IntWalk.i64_in _ (by omega)
      have E2 := Lib.hid e2
      rw [hmin]
      clear e1 e2 hmin
      go_wp2_with fail
      refine C4.out.mono ?_
      rintro e w5 ⟨rfl, ha⟩
      obtain ⟨X5, h5, _, _⟩ := hD.after ha
      have hok5 : Ok (st2 f) := stV_ok (by omega) (by omega)
      have C5 := Lib.hid h5.disk.down
      rw [show (st2 f).down = false from rfl] at C5
      have C6 := Lib.hid (h5.disk.names hok5)
      clear ha C4 hD
      go_wp2_with fail
      refine C5.out.mono ?_
      rintro e w6 ⟨rfl, rfl⟩
      go_wp2_with fail
      refine C6.out.mono ?_
      rintro e w7 ⟨v, rfl, hrow, b7⟩
      have hl7 : ((st2 f).V.map fun t => t.1).length = f - 1 := by simp [st2, stV]
      rw [hl7] at hrow
      obtain ⟨A7, c7, rfl, _⟩ := row_open hrow
      have hlen7 := HL7.out
      clear hl7
      have h7 := h5.below b7
      have C7 := Lib.hid (h7.disk.create hok5 ⟨#[122]⟩ (by decide))
      rw [show (⟨#[122]⟩ : ByteArray).data.toList = [122] from rfl] at C7
      clear C5 C6 h5 b7 hrow
      go_wp2_with fail
      refine C7.out.mono ?_
      rintro e w8 ⟨rfl, ha⟩
      obtain ⟨X8, h8, _, _⟩ := h7.after ha
      rw [E2.out]
      go_wp2
      go_ret
      exact ⟨rfl, h8.old⟩
end Go.Proofs.Ytknakcpjholipaa
