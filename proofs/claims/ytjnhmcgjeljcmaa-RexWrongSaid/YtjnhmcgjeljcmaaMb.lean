/- glob.members: of each byte whether some range holds it. -/
import Derived.Test.YtjnhmcgjeljcmaaCu
import Derived.Test.YtjnhmcgjeljcmaaMp
import Derived.Deep.MidRow
namespace Go.Proofs.Ytjnhmcgjeljcmaa
open Go.RowKit

/-- A slice that reads as these ranges; X: where its block may be. -/
def RgAt (w : World) (X : Nat → Prop) (A : Option Addr) (n : Nat) (rs : List (UInt8 × UInt8)) : Prop :=
  rs.length = n ∧ (0 < n → ∃ b o, A = some ⟨b, o, none⟩ ∧ X b ∧ ∀ i r, rs[i]? = some r → w.cell? ⟨b, o + i * 2, none⟩ = some (.int .u8 r.1.toNat) ∧ w.cell? ⟨b, o + i * 2 + 1, none⟩ = some (.int .u8 r.2.toNat))
theorem RgAt.keep {w w' : World} {X : Nat → Prop} {A : Option Addr} {n : Nat} {rs : List (UInt8 × UInt8)} (h : RgAt w X A n rs) (hk : ∀ b, X b → w'.heap[b]? = w.heap[b]?) : RgAt w' X A n rs :=
  ⟨h.1, fun hn => by
    obtain ⟨b, o, hA, hX, hc⟩ := h.2 hn
    refine ⟨b, o, hA, hX, fun i r hr => ?_⟩
    obtain ⟨h1, h2⟩ := hc i r hr
    have e := hk b hX
    exact ⟨(World.cell?_of_block (a := ⟨b, o + i * 2, none⟩) e).trans h1, (World.cell?_of_block (a := ⟨b, o + i * 2 + 1, none⟩) e).trans h2⟩⟩
theorem RgAt.mono {w : World} {X Y : Nat → Prop} {A : Option Addr} {n : Nat} {rs : List (UInt8 × UInt8)} (h : RgAt w X A n rs) (hXY : ∀ b, X b → Y b) : RgAt w Y A n rs :=
  ⟨h.1, fun hn => by
    obtain ⟨b, o, hA, hX, hc⟩ := h.2 hn
    exact ⟨b, o, hA, hXY b hX, hc⟩⟩
theorem RgAt.nil (w : World) (X : Nat → Prop) (A : Option Addr) : RgAt w X A 0 [] := ⟨rfl, fun h => absurd h (by omega)⟩

/-! whole blocks written -/
theorem setCells_far (g : Nat) : ∀ (vs : List Value) (o : Nat) (w : World) (i : Nat), i ≠ g → (w.setCells g o vs).heap[i]? = w.heap[i]?
  | [], _, _, _, _ => rfl
  | v :: r, o, w, i, h => by
    show ((w.setCell ⟨g, o, none⟩ v).setCells g (o + 1) r).heap[i]? = _
    rw [setCells_far g r (o + 1) _ i h, Below.heap_setCell _ _ _ _ h]
theorem setCells_size (g : Nat) : ∀ (vs : List Value) (o : Nat) (w : World), (w.setCells g o vs).heap.size = w.heap.size
  | [], _, _ => rfl
  | v :: r, o, w => by
    show ((w.setCell ⟨g, o, none⟩ v).setCells g (o + 1) r).heap.size = _
    rw [setCells_size g r (o + 1) _]; simp [World.setCell]
theorem setCells_rest (g : Nat) : ∀ (vs : List Value) (o : Nat) (w : World), (w.setCells g o vs).os = w.os ∧ (w.setCells g o vs).tape = w.tape ∧ (w.setCells g o vs).output = w.output
  | [], _, _ => ⟨rfl, rfl, rfl⟩
  | v :: r, o, w => setCells_rest g r (o + 1) (w.setCell ⟨g, o, none⟩ v)
theorem below_setCells {B : Nat} {a w : World} (h : Below B a w) {g : Nat} (hg : B ≤ g) (o : Nat) (vs : List Value) : Below B a (w.setCells g o vs) :=
  h.trans ⟨(setCells_rest g vs o w).1, (setCells_rest g vs o w).2.1, (setCells_rest g vs o w).2.2, by rw [setCells_size]; exact Nat.le_refl _, fun k hk => setCells_far g vs o w k (by omega)⟩
theorem Blk.far_setCells {w : World} {g : Nat} {t : TypeId} {cs : Array Value} (h : Blk w g t cs) {b : Nat} (hne : g ≠ b) (o : Nat) (vs : List Value) : Blk (w.setCells b o vs) g t cs := (setCells_far b vs o w g hne).trans h
theorem Blk.setCells_ {g : Nat} {t : TypeId} : ∀ (vs : List Value) (pre old : List Value) (w : World), old.length = vs.length → Blk w g t (pre ++ old).toArray → Blk (w.setCells g pre.length vs) g t (pre ++ vs).toArray
  | [], pre, old, w, hl, h => by
    have : old = [] := List.eq_nil_of_length_eq_zero hl
    subst this; exact h
  | v :: r, pre, old, w, hl, h => by
    match old, hl with
    | x :: old, hl =>
      have h1 := h.set_ pre.length v
      have h2 : (pre ++ x :: old).toArray.setIfInBounds pre.length v = ((pre ++ [v]) ++ old).toArray := by simp
      rw [h2] at h1
      have h3 := Blk.setCells_ r (pre ++ [v]) old _ (by simpa using hl) h1
      simp only [List.length_append, List.length_singleton, List.append_assoc, List.singleton_append] at h3
      exact h3
theorem Blk.setAll {w : World} {g : Nat} {t : TypeId} {old cs : Array Value} (h : Blk w g t old) (hs : old.size = cs.size) : Blk (w.setCells g 0 cs.toList) g t cs := by
  have := Blk.setCells_ cs.toList [] old.toList w (by simpa using hs) (by simpa using h)
  simpa using this
theorem Blk.there_ {w : World} {g : Nat} {t : TypeId} {cs : Array Value} (h : Blk w g t cs) : w.there g 0 cs.size := fun j hj => by
  refine ⟨?_, h.frozen _⟩
  rw [h.cell, Nat.zero_add, Array.getElem?_eq_getElem hj]; rfl
theorem Blk.range_ {w : World} {g : Nat} {t : TypeId} {cs : Array Value} (h : Blk w g t cs) : w.rangeAt g 0 cs.toList := fun j v hv => by
  rw [h.cell, Nat.zero_add]; simpa using hv
theorem rowV_one (n : Nat) (f : Nat → Value) (h : ∀ i, (f i).oneCell' = true) : (rowV n f).all (·.oneCell') = true := by
  unfold rowV
  refine all_oneCell_toArray fun v hv => ?_
  rw [List.mem_map] at hv
  obtain ⟨i, _, rfl⟩ := hv
  exact h i

theorem zero72 : Try.zeroCells173 = rowV 256 (fun _ => .bool false) := by kernel_rfl
theorem zero86 : Try.zeroCells208 = rowV 257 (fun _ => .int .i64 0) := by kernel_rfl

theorem one1_no {lo hi : UInt8} (h : ¬ lo ≤ hi) (j : Nat) : one1 (lo, hi) j = 0 := by simp only [one1, h, if_false]
theorem chg_step (rs : List (UInt8 × UInt8)) (lo hi : UInt8) (hle : lo ≤ hi) {w : World} {g : Nat} {t : TypeId} (h : Blk w g t (rowV 257 fun j => .int .i64 (chg rs j))) :
    Blk ((w.setCell ⟨g, lo.toNat, none⟩ (.int .i64 (chg rs lo.toNat + 1))).setCell ⟨g, hi.toNat + 1, none⟩ (.int .i64 (chg rs (hi.toNat + 1) - 1))) g t (rowV 257 fun j => .int .i64 (chg rs j + one1 (lo, hi) j)) := by
  have h1 := (h.set_ lo.toNat (.int .i64 (chg rs lo.toNat + 1))).set_ (hi.toNat + 1) (.int .i64 (chg rs (hi.toNat + 1) - 1))
  rw [rowV_set, rowV_set] at h1
  have hle' := UInt8.le_iff_toNat_le.1 hle
  rw [rowV_congr (g := fun j => .int .i64 (chg rs j + one1 (lo, hi) j))] at h1
  · exact h1
  · intro i _
    simp only [one1, hle, if_true]
    by_cases e1 : i = hi.toNat + 1
    · subst e1
      simp [show ¬ lo.toNat = hi.toNat + 1 by omega]; try omega
    · by_cases e2 : i = lo.toNat
      · subst e2; simp [e1, show ¬ hi.toNat + 1 = lo.toNat by omega]
      · simp [e1, e2, show ¬ lo.toNat = i from fun h => e2 h.symm, show ¬ hi.toNat + 1 = i from fun h => e1 h.symm]
theorem results_cell1 {fn : Func} {p : Tmp} {ty : TypeId} {P : Program} {tmps : Array Value} {w : World} {a : Addr} (h : fn.results = #[.cell p ty]) (ha : tmps.getD p undef = .pointer (some a)) :
    (results fn tmps).run P w = (loadVar ty a).run P w := by
  have ha' : tmps[p]?.getD undef = .pointer (some a) := by simpa using ha
  simp only [results, h]
  simp [ha', asAddr]
theorem held_next {x j : Nat} {b d : Bool} (h : x = j → d = b) : Value.bool (decide (x < j + 1) && b) = if x = j then Value.bool d else .bool (decide (x < j) && b) := by
  by_cases e : x = j
  · rw [if_pos e, h e]; subst e; simp
  · rw [if_neg e]
    by_cases e2 : x < j
    · simp [e2, Nat.lt_succ_of_lt e2]
    · simp [e2, show ¬ x < j + 1 by omega]
set_option maxHeartbeats 400000 in
set_option maxRecDepth 100000 in
theorem members_any (A : Option Addr) (n c : Nat) (rs : List (UInt8 × UInt8)) (w : World) (hr : RgAt w (· < w.heap.size) A n rs) (hn : n ≤ maxLen) :
    Calls Try.prog 118 #[.slice A n c] w fun e w' => e = .returned (.agg (rowV 256 fun j => .bool (inR rs j))) ∧ Below w.heap.size w w' := by
  unfold maxLen at hn
  go_enter Try.func118, Try.ntmps118
  go_wp2_with fail
  rw [zero72, zero86]
  go_loopw [11] (fun i wr => ∃ k : Nat, k ≤ n ∧ i = .int .i64 k ∧ Blk wr w.heap.size 173 (rowV 256 fun _ => .bool false) ∧ Blk wr (w.heap.size + 1) 208 (rowV 257 fun j => .int .i64 (chg (rs.take k) j)) ∧ Below w.heap.size w wr) (fun i _ => n - (intOf i).toNat)
  case atStart =>
    refine ⟨0, Nat.zero_le _, rfl, (Blk.new w _ _).alloc _, ?_, ((Below.refl _ w).alloc (Nat.le_refl _) _).alloc (by simp) _⟩
    have := Blk.new (w.alloc (.cells (rowV 256 fun _ => .bool false) 173)) 208 (rowV 257 fun _ => .int .i64 0)
    simpa [chg] using this
  case round =>
    obtain ⟨k, hk, rfl, hb0, hb1, hbw⟩ := hrel
    by_cases hlt : k < n
    · have hkr : k < rs.length := by have := hr.1; omega
      obtain ⟨b, o, rfl, hX, hcells⟩ := hr.2 (by omega)
      obtain ⟨e1, e2⟩ := hcells k (rs[k]) (List.getElem?_eq_getElem hkr)
      have e1' := (hbw.cell (p := ⟨b, o + k * 2, none⟩) hX).trans e1
      have e2' := (hbw.cell (p := ⟨b, o + k * 2 + 1, none⟩) hX).trans e2
      clear e1 e2 hcells
      have hl0 := hb0.lt
      have hl1 := hb1.lt
      generalize hrk : rs[k] = r at e1' e2'
      obtain ⟨lo, hi⟩ := r
      have hlo := UInt8.toNat_lt lo
      have hhi := UInt8.toNat_lt hi
      have q1 : wr.cell? ⟨w.heap.size + 1, lo.toNat, none⟩ = some (.int .i64 (chg (rs.take k) lo.toNat)) := by rw [hb1.cell, rowV_get _ _ _ (by omega)]
      have q2 : wr.cell? ⟨w.heap.size + 1, hi.toNat + 1, none⟩ = some (.int .i64 (chg (rs.take k) (hi.toNat + 1))) := by rw [hb1.cell, rowV_get _ _ _ (by omega)]
      have z1 : wr.frozen? ⟨w.heap.size + 1, lo.toNat, none⟩ = false := hb1.frozen _
      have z2 : wr.frozen? ⟨w.heap.size + 1, hi.toNat + 1, none⟩ = false := hb1.frozen _
      have bd1 := chg_bd (rs.take k) lo.toNat
      have bd2 := chg_bd (rs.take k) (hi.toNat + 1)
      rw [List.length_take, Nat.min_eq_left (by omega)] at bd1 bd2
      have hch : rs.take (k + 1) = rs.take k ++ [(lo, hi)] := by rw [List.take_succ_eq_append_getElem hkr, hrk]
      have HC := Lib.hid (fun j => (by rw [hch, chg_snoc] : chg (rs.take (k + 1)) j = chg (rs.take k) j + one1 (lo, hi) j))
      clear hch hrk
      by_cases hle : (lo.toNat : Int) ≤ (hi.toNat : Int)
      · have HE := Lib.hid (chg_step (rs.take k) lo hi (UInt8.le_iff_toNat_le.2 (by omega)) hb1)
        go_wp2
        go_roundw
        case rel =>
          refine ⟨k + 1, by omega, by go_num, ((hb0.far (by simp) _).far (by simp) _).alloc _, ?_, ((hbw.setCell (p := ⟨w.heap.size + 1, lo.toNat, none⟩) (by simp) _).setCell (p := ⟨w.heap.size + 1, hi.toNat + 1, none⟩) (by simp) _).alloc (by simp [World.setCell]; omega) _⟩
          rw [rowV_congr (fun i _ => by rw [HC.out i])]
          exact HE.out.alloc _
        case measure => simp [intOf]; omega
      · have HZ := Lib.hid (one1_no (lo := lo) (hi := hi) (fun h => hle (by have := UInt8.le_iff_toNat_le.1 h; omega)))
        go_wp2
        go_roundw
        case rel =>
          refine ⟨k + 1, by omega, by go_num, hb0.alloc _, ?_, hbw.alloc (by omega) _⟩
          rw [rowV_congr (fun i _ => by rw [HC.out i, HZ.out i, Int.add_zero])]
          exact hb1.alloc _
        case measure => simp [intOf]; omega
    · obtain rfl : k = n := by omega
      have hk0 : rs.take k = rs := List.take_of_length_le (by have := hr.1; omega)
      rw [hk0] at hb1
      have hl0 := hb0.lt
      have hl1 := hb1.lt
      have hlen := hr.1
      clear hk0 hr hlt
      go_wp2_with fail
      rw [zero72]
      have hbx0 := hb0.alloc (.cells (rowV 256 fun _ => .bool false) 173)
      have hbx1 := hb1.alloc (.cells (rowV 256 fun _ => .bool false) 173)
      have hbx2 := Blk.new wr 173 (rowV 256 fun _ => .bool false)
      have hbwx := hbw.alloc (by omega) (.cells (rowV 256 fun _ => .bool false) 173)
      clear hb0 hb1
      have hH2 : w.heap.size + 1 < wr.heap.size := hl1
      generalize wr.heap.size = H2 at *
      go_loopw [7, 35] (fun v i w2 => ∃ j : Nat, j ≤ 256 ∧ i = .int .i64 j ∧ v = .int .i64 (psum (chg rs) j) ∧ Blk w2 w.heap.size 173 (rowV 256 fun _ => .bool false) ∧ Blk w2 (w.heap.size + 1) 208 (rowV 257 fun j => .int .i64 (chg rs j)) ∧ Blk w2 H2 173 (rowV 256 fun x => .bool (decide (x < j) && inR rs x)) ∧ Below w.heap.size w w2) (fun _ i _ => 256 - (intOf i).toNat)
      case atStart => exact ⟨0, by omega, rfl, rfl, hbx0, hbx1, by simpa using hbx2, hbwx⟩
      case round =>
        clear hbx0 hbx1 hbx2 hbwx hbw
        obtain ⟨j, hj, rfl, rfl, b0, b1, b2, hb⟩ := hrel
        have L0 := b0.lt
        have L1 := b1.lt
        have L2 := b2.lt
        by_cases hjl : j < 256
        · have q1 : wr.cell? ⟨w.heap.size + 1, j, none⟩ = some (.int .i64 (chg rs j)) := by rw [b1.cell, rowV_get _ _ _ (by omega)]
          have q2 : wr.cell? ⟨H2, j, none⟩ = some (.bool (decide (j < j) && inR rs j)) := by rw [b2.cell, rowV_get _ _ _ hjl]
          have z2 : wr.frozen? ⟨H2, j, none⟩ = false := b2.frozen _
          have hps : psum (chg rs) j + chg rs j = cntR rs j := psum_chg rs j
          have hpl : -(k : Int) ≤ psum (chg rs) j ∧ psum (chg rs) j ≤ k := by
            rcases Nat.eq_zero_or_pos j with h0 | h0
            · subst h0; simp [psum]
            · have h1 := psum_chg rs (j - 1)
              rw [Nat.sub_add_cancel h0] at h1
              have h2 := cntR_le rs (j - 1)
              omega
          have hcl := cntR_le rs j
          have hcb := chg_bd rs j
          have HD := Lib.hid (cntR_pos rs j)
          have HP := Lib.hid hps
          have hsum : -9223372036854775808 ≤ psum (chg rs) j + chg rs j ∧ psum (chg rs) j + chg rs j ≤ 9223372036854775807 := by omega
          clear hps
          generalize hPj : psum (chg rs) j = pj at *
          generalize hCj : chg rs j = cj at *
          have HPj := Lib.hid hPj
          have HCj := Lib.hid hCj
          clear hPj hCj
          go_wp2
          go_roundw
          case rel =>
            refine ⟨j + 1, by omega, by go_num, ?_, b0.far (by simp; omega) _, b1.far (by simp; omega) _, ?_, hb.setCell (p := ⟨H2, j, none⟩) (by simp; omega) _⟩
            · show _ = Value.int .i64 (psum (chg rs) j + chg rs j)
              rw [HPj.out, HCj.out]
            · have hs := b2.set_ j (.bool (decide (0 < pj + cj)))
              rw [rowV_set] at hs
              rw [rowV_congr (fun x _ => held_next (x := x) (j := j) (b := inR rs x) (d := decide (0 < pj + cj)) (fun e => by subst e; rw [HP.out, HD.out]))]
              exact hs
          case measure => simp [intOf]; omega
        · obtain rfl : j = 256 := by omega
          have hsz : (Try.prog.info? 173).map (·.size) = some 256 := by kernel_rfl
          go_wp2_with (first
            | (refine wpList_load_mid rfl 173 (.tmp 6) rfl H2 0 rfl (rowV 256 fun x => .bool (decide (x < 256) && inR rs x)).toList _ b2.range_ Try.underlying173 rfl (by rw [hsz, Array.length_toList, rowV_size]) ?_)
            | (refine wpList_store_mid rfl 173 (.tmp 2) (.tmp 48) rfl w.heap.size 0 (rowV 256 fun x => .bool (decide (x < 256) && inR rs x)) rfl rfl (by have := b0.there_; rw [rowV_size] at this ⊢; exact this) (by rw [hsz, rowV_size]) (rowV_one _ _ fun _ => rfl) ?_))
          have b3 := b0.setAll (cs := rowV 256 fun x => .bool (decide (x < 256) && inR rs x)) (by rw [rowV_size, rowV_size])
          have heq : (rowV 256 fun x => Value.bool (decide (x < 256) && inR rs x)) = rowV 256 fun x => .bool (inR rs x) := rowV_congr fun x hx => by rw [decide_eq_true hx, Bool.true_and]
          rw [heq] at b3
          refine bodyPost_ret (v := .agg (rowV 256 fun x => .bool (inR rs x))) ?_ rfl ⟨rfl, below_setCells hb (Nat.le_refl _) _ _⟩
          rw [results_cell1 (p := 2) (ty := 173) (a := ⟨w.heap.size, 0, none⟩) Try.results118 rfl]
          rw [heq]
          have hld := run_loadVar_mid (P := Try.prog) _ w.heap.size 0 173 _ _ b3.range_ Try.underlying173 rfl (by rw [hsz, Array.length_toList, rowV_size])
          rw [Array.toArray_toList] at hld
          exact hld
end Go.Proofs.Ytjnhmcgjeljcmaa
