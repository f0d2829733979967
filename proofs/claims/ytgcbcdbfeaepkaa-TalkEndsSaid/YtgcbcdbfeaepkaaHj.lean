/- TalkEnds: plain facts, its list of clauses. -/
import Derived.Test.YtgcbcdbfeaepkaaHi
import Derived.Laws.IdiomStrings
namespace Go.Proofs.Ytgcbcdbfeaepkaa
open Go.RowKit Go.Maps

theorem and_lo9 (a b : Int) (n : Nat) (hb : b = (n : Int)) (hn : n < 4611686018427387904) : 0 ≤ bits BinOp.and IntKind.i64 a b ∧ bits BinOp.and IntKind.i64 a b ≤ n := by
  have hbn : (BitVec.ofInt 64 b).toNat = n := by
    rw [hb, BitVec.toNat_ofInt]; omega
  have h : (BitVec.ofInt 64 a &&& BitVec.ofInt 64 b).toNat ≤ n := by
    rw [BitVec.toNat_and]
    exact Nat.le_trans Nat.and_le_right (Nat.le_of_eq hbn)
  show 0 ≤ IntKind.i64.wrap ((BitVec.ofInt 64 a &&& BitVec.ofInt 64 b).toNat : Int) ∧ IntKind.i64.wrap ((BitVec.ofInt 64 a &&& BitVec.ofInt 64 b).toNat : Int) ≤ n
  rw [IntWalk.i64_in _ (by omega)]; omega
theorem bytes_of9 (w : World) (s : ByteArray) : ∃ c W, (convert 9 52 (.string s)).run Try.prog w = .ok (.slice (some ⟨w.heap.size, 0, none⟩) s.size c) W ∧ BytesAt W (some ⟨w.heap.size, 0, none⟩) s.size s.data.toList ∧ Below w.heap.size w W ∧ W.heap.size = w.heap.size + 1 := by
  refine ⟨_, _, run_bytes_of_string w 9 52 5 s Try.underlying9 Try.underlying52 Try.underlying5, ⟨rfl, fun _ => ⟨_, 0, rfl, by simp, fun i c hi => ?_⟩⟩, ((Below.refl w.heap.size w).drew).alloc (Nat.le_refl _) _, by simp⟩
  rw [Nat.zero_add, cell_of_row _ w.heap.size i _ 5 _ (heap_alloc_new w.drew _)]
  have hl := (List.getElem?_eq_some_iff.1 hi).1
  have e : s.data.toList[i] = c := (List.getElem?_eq_some_iff.1 hi).2
  rw [bytesRow_at s _ i (by simpa using hl)]
  rw [← e]
  rfl
def flatA : List Sp → List Value
  | [] => []
  | p :: r => .int .i64 p.kind :: .string p.text :: .bool false :: .slice none 0 0 :: flatA r
theorem flatA_app (a b : List Sp) : flatA (a ++ b) = flatA a ++ flatA b := by
  induction a with
  | nil => rfl
  | cons p r ih => simp [flatA, ih]
theorem flatA_get : ∀ (l : List Sp) (i : Nat) (p : Sp), l[i]? = some p → (flatA l)[i * 4]? = some (.int .i64 p.kind) ∧ (flatA l)[i * 4 + 1]? = some (.string p.text) ∧ (flatA l)[i * 4 + 2]? = some (.bool false) ∧ (flatA l)[i * 4 + 3]? = some (.slice none 0 0)
  | [], i, p, h => by simp at h
  | q :: r, 0, p, h => by simp at h; subst h; exact ⟨rfl, rfl, rfl, rfl⟩
  | q :: r, i + 1, p, h => by
    have := flatA_get r i p (by simpa using h)
    rw [show (i + 1) * 4 = i * 4 + 1 + 1 + 1 + 1 by omega]
    exact this
theorem aclauseInfo : (Try.prog.info? 80).map (fun i => (i.zero, i.size, i.bytes)) = some (some (.agg #[.int .i64 0, .string ⟨#[]⟩, .bool false, .slice none 0 0]), 4, 56) := by kernel_rfl
theorem acl_of {W : World} {B n c : Nat} {A : Option Addr} {ps : List Sp} (ho : W.ownsRow B 80 4 (.slice A n c) n (flatA ps)) (hl : ps.length = n) (hn : n ≤ 1000) : AClsAt W A n ps :=
  ⟨hl, hn, fun h0 => by
    obtain ⟨g, cap, e, -⟩ := ho.form h0
    injection e with e1 _ e3
    subst e1
    refine ⟨g, 0, rfl, (ho.lt g rfl).2, fun i p hi => ?_⟩
    have hin : i < n := by have := (List.getElem?_eq_some_iff.1 hi).1; omega
    obtain ⟨f0, f1, f2, f3⟩ := flatA_get ps i p hi
    rw [Nat.zero_add]
    exact ⟨(ho.cellAt _ (by omega)).trans f0, (ho.cellAt _ (by omega)).trans f1, ⟨false, (ho.cellAt _ (by omega)).trans f2⟩, none, 0, 0, (ho.cellAt _ (by omega)).trans f3⟩⟩
def twoC (k1 k2 : Int) : Array Value := #[.int .i64 k1, .string ⟨#[]⟩, .bool false, .slice none 0 0, .int .i64 k2, .string ⟨#[]⟩, .bool false, .slice none 0 0]
theorem acl_app {w W : World} {B n c : Nat} {A : Option Addr} {ps : List Sp} (ho : W.ownsRow B 80 4 (.slice A n c) n (flatA ps)) (hB : B ≤ W.heap.size) (hbel : Below B w W) (hn : n ≤ 100) (k1 k2 : Int) :
    ∃ A' c' W', (Builtin.append_ #[76, 76] 76 #[.slice A n c, .slice (some ⟨W.heap.size, 0, none⟩) 2 2]).run Try.prog (W.alloc (.cells #[.int .i64 k1, .string ⟨#[]⟩, .bool false, .slice none 0 0, .int .i64 k2, .string ⟨#[]⟩, .bool false, .slice none 0 0] 80)) = .ok (.slice A' (n + 2) c') W' ∧
      W'.ownsRow B 80 4 (.slice A' (n + 2) c') (n + 2) (flatA (ps ++ [⟨k1, ⟨#[]⟩⟩, ⟨k2, ⟨#[]⟩⟩])) ∧ Below B w W' ∧ B ≤ W'.heap.size := by
  obtain ⟨i0, hi0, hz0, hz1, hz2⟩ := info_parts aclauseInfo
  obtain ⟨v', W', q1, q2, q3, -, q5⟩ := run_append_own_at (P := Try.prog) (w := W.alloc (.cells #[.int .i64 k1, .string ⟨#[]⟩, .bool false, .slice none 0 0, .int .i64 k2, .string ⟨#[]⟩, .bool false, .slice none 0 0] 80)) B 76 76 80 i0 _ 4 56 Try.underlying76 hi0 hz0 hz1 hz2 rfl (by decide) _ n (flatA ps) (ho.alloc _) ⟨W.heap.size, 0, none⟩ 2 2 [.int .i64 k1, .string ⟨#[]⟩, .bool false, .slice none 0 0, .int .i64 k2, .string ⟨#[]⟩, .bool false, .slice none 0 0] rfl (fun x u hu => by
      have hn := Blk.new W 80 #[.int .i64 k1, .string ⟨#[]⟩, .bool false, .slice none 0 0, .int .i64 k2, .string ⟨#[]⟩, .bool false, .slice none 0 0]
      rw [Addr.add_mid, Nat.zero_add, hn.cell x]
      rw [← hu]; simp) (fun u hu => by
      simp only [List.mem_cons, List.not_mem_nil, or_false] at hu
      rcases hu with rfl | rfl | rfl | rfl | rfl | rfl | rfl | rfl <;> rfl) (by unfold maxLen; omega) (by omega) (by simp; omega)
  obtain ⟨g, cap2, rfl, -⟩ := q2.form (by omega)
  refine ⟨_, _, W', q1, by rw [flatA_app]; exact q2, (hbel.alloc hB _).grown q3 (by simp; omega) fun k hk => (ho.lt k hk).1, by have := q3.size; simp at this; omega⟩
/-- No text that is longer than the bytes is found. -/
theorem exF_long {l bs : List UInt8} (h : bs.length < l.length) : exF l bs = none := exF_none fun g ⟨h1, _⟩ => by omega
def EndsOk (cs : List Cl) (said : List UInt8) (e kd want : Int) : Prop :=
  (∀ bs, bs.length ≤ said.length → foundT cs 0 bs = none) ∧ firstK 7 cs 0 = -1 ∧ ((e = 1 ∧ kd = 3 ∧ firstK 5 cs 0 = want) ∨ (e = 2 ∧ kd = 4 ∧ firstK 6 cs 0 = want))
theorem ends_tail {cs : List Cl} {said : List UInt8} {e kd want : Int} (h : EndsOk cs said e kd want) (n : Nat) (come : Bool) (now : Int) (h0 : now ≤ 3) (bs : List UInt8) (hb : bs = said) : waitT cs 200 100 1000 (n + 1) come 0 ⟨[], e, 2, 1, now, []⟩ bs = (⟨kd, want, [], 0⟩, ⟨[], e, 2, 1, 3, []⟩, said) := by
  subst hb
  obtain ⟨h1, h2, h3⟩ := h
  have hm : max (min (100 : Int) 1000) now = 100 := by omega
  unfold waitT
  rw [h1 bs (Nat.le_refl _)]
  simp only [fullT, h2]
  rw [if_neg (by cases come <;> simp)]
  have hN : nextS ⟨[], e, 2, 1, now, []⟩ (min 100 1000) = (e + 1, [], ⟨[], e, 2, 1, 3, []⟩) := by
    unfold nextS
    simp only
    rw [if_pos (by omega), hm, if_neg (by decide)]
    rfl
  rw [hN]
  simp only
  rw [if_neg (by omega)]
  rcases h3 with ⟨rfl, rfl, h3⟩ | ⟨rfl, rfl, h3⟩
  · unfold endedT
    rw [if_pos (by decide), h3]
  · unfold endedT
    rw [if_neg (by decide), if_pos (by decide), h3]
theorem ends_first {cs : List Cl} {said : List UInt8} {e kd want : Int} (h : EndsOk cs said e kd want) (hl : said.length ≤ 100) : waitT cs 200 100 1000 3 false 0 ⟨[(1, said)], e, 2, 0, 0, []⟩ [] = (⟨kd, want, [], 0⟩, ⟨[], e, 2, 1, 3, []⟩, said) := by
  have hN : nextS ⟨[(1, said)], e, 2, 0, 0, []⟩ (min 100 1000) = (1, said, ⟨[], e, 2, 1, 1, []⟩) := rfl
  have hg : goneBy [] said 200 = 0 := by unfold goneBy; simp; omega
  rw [waitT, h.1 [] (by simp)]
  simp only [fullT, Bool.false_and, Bool.false_eq_true, if_false]
  rw [hN]
  simp only
  rw [if_pos trivial, hg]
  exact ends_tail h 1 true 1 (by decide) _ (by simp)
theorem ends_ok1 (cs : List Cl) (said : List UInt8) (e : Int) (hl : said.length ≤ 100) : waitOk cs 200 100 1000 3 false 0 ⟨[(1, said)], e, 2, 0, 0, []⟩ [] :=
  waitOk_of _ (by decide) _ _ _ _ _ _ _ (show 1 < 3 by decide) (fun d hd => by
    rcases List.mem_cons.1 hd with rfl | hd
    · exact Nat.le_trans hl (by decide)
    · cases hd) (Int.le_refl 0) (show (0 : Int) + ((1 : Nat) : Int) * 1000000 ≤ _ by decide) (show 0 + 1 * 3000 ≤ _ by decide) (by decide)
theorem ends_ok2 (cs : List Cl) (said : List UInt8) (e : Int) (hl : said.length ≤ 100) : waitOk cs 200 100 1000 3 false 0 ⟨[], e, 2, 1, 3, []⟩ said :=
  waitOk_of _ (by decide) _ _ _ _ _ _ _ (show 0 < 3 by decide) (fun d hd => by cases hd) (show (0 : Int) ≤ 1 by decide) (show (1 : Int) + ((0 : Nat) : Int) * 1000000 ≤ _ by decide) (show 0 + 0 * 3000 ≤ _ by decide) (by omega)
end Go.Proofs.Ytgcbcdbfeaepkaa
