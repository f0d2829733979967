/- glob.Ranges answers rangesL. Trees of patterns in memory; the reference's Same says true of two that read alike. Plain functions: what glob.Parse reads. No program. -/
import Derived.Test.YtgcbcdbfeaepkaaMb
import Derived.Deep.RegionHeld3
namespace Go.Proofs.Ytgcbcdbfeaepkaa
open Go.RowKit

def rgCells (l : List (UInt8 × UInt8)) : List Value := l.flatMap fun r => [.int .u8 r.1.toNat, .int .u8 r.2.toNat]
theorem rgCells_len (l : List (UInt8 × UInt8)) : (rgCells l).length = l.length * 2 := by
  induction l with
  | nil => rfl
  | cons a l ih => simp only [rgCells, List.flatMap_cons, List.length_append, List.length_cons, List.length_nil] at ih ⊢; omega
theorem rgCells_append (a b : List (UInt8 × UInt8)) : rgCells (a ++ b) = rgCells a ++ rgCells b := by simp [rgCells]
theorem rgCells_get (l : List (UInt8 × UInt8)) (i : Nat) (r : UInt8 × UInt8) (h : l[i]? = some r) : (rgCells l)[i * 2]? = some (.int .u8 r.1.toNat) ∧ (rgCells l)[i * 2 + 1]? = some (.int .u8 r.2.toNat) := by
  induction l generalizing i with
  | nil => simp at h
  | cons a l ih =>
    match i with
    | 0 => simp at h; subst h; simp [rgCells]
    | i + 1 =>
      have := ih i (by simpa using h)
      simp only [rgCells, List.flatMap_cons] at this ⊢
      rw [show (i + 1) * 2 = (i * 2) + 1 + 1 by omega]
      simpa using this
theorem rgCells_bump (l : List (UInt8 × UInt8)) (lo hi h2 : UInt8) : (rgCells (l ++ [(lo, hi)])).set (l.length * 2 + 1) (.int .u8 h2.toNat) = rgCells (l ++ [(lo, h2)]) := by
  rw [rgCells_append, rgCells_append, List.set_append_right _ _ (by rw [rgCells_len]; omega), rgCells_len, show l.length * 2 + 1 - l.length * 2 = 1 by omega]
  rfl
theorem bump_snoc (l : List (UInt8 × UInt8)) (lo hi : UInt8) (k : Nat) : bump (l ++ [(lo, hi)]) k = l ++ [(lo, UInt8.ofNat k)] := by
  simp [bump]
theorem rgTo_skip {m : Nat → Bool} {k : Nat} (h : m k = false) : rgTo m (k + 1) = rgTo m k := by rw [rgTo, h]; rfl
theorem rgTo_new {m : Nat → Bool} {k : Nat} (h : m k = true) (h2 : k = 0 ∨ m (k - 1) = false) : rgTo m (k + 1) = rgTo m k ++ [(UInt8.ofNat k, UInt8.ofNat k)] := by
  rw [rgTo, if_pos h, if_neg]
  rcases h2 with h2 | h2
  · simp [h2]
  · simp [h2]
theorem rgTo_bump {m : Nat → Bool} {k : Nat} (h : m (k + 1) = true) (h2 : m k = true) : ∃ l lo, rgTo m (k + 1) = l ++ [(lo, UInt8.ofNat k)] ∧ rgTo m (k + 1 + 1) = l ++ [(lo, UInt8.ofNat (k + 1))] := by
  obtain ⟨l, lo, e⟩ := rgTo_last m k h2
  refine ⟨l, lo, e, ?_⟩
  rw [rgTo, if_pos h, if_pos (by simp [h2]), e, bump_snoc]
theorem rgInfo : (Try.prog.info? 168).map (fun i => (i.zero, i.size, i.bytes)) = some (some (.agg #[.int .u8 0, .int .u8 0]), 2, 2) := by kernel_rfl
theorem two_one (a b : Int) : ∀ u ∈ [Value.int .u8 a, .int .u8 b], u.oneCell' = true := by
  intro u hu; simp at hu; rcases hu with rfl | rfl <;> rfl
theorem own_ne {v : Value} {g G H n cap : Nat} (h : v.ownBlock = some g ∨ g = H) (hv : v.ownBlock ≠ some G) (hH : G ≠ H) : (Value.slice (some ⟨g, 0, none⟩) n cap).ownBlock ≠ some G := by
  simp only [Value.ownBlock, ne_eq, Option.some.injEq]
  rintro rfl
  rcases h with h | h
  · exact hv h
  · exact hH h
theorem own_form {w : World} {B e sz : Nat} {v : Value} {n : Nat} {xs : List Value} (h : w.ownsRow B e sz v n xs) : ∃ ao cap, v = .slice ao n cap := by
  rcases h.2 with ⟨rfl, h0⟩ | ⟨g, cap, cur, rfl, _⟩
  · exact ⟨none, 0, by rw [h0]⟩
  · exact ⟨_, _, rfl⟩
set_option maxHeartbeats 400000 in
set_option maxRecDepth 100000 in
theorem ranges_any (A : Option Addr) (n c : Nat) (rs : List (UInt8 × UInt8)) (neg : Bool) (w : World) (hr : RgAt w (· < w.heap.size) A n rs) (hn : n ≤ maxLen) :
    Calls Try.prog 164 #[.slice A n c, .bool neg] w fun e w' => ∃ v, e = .returned v ∧ w'.ownsRow w.heap.size 168 2 v (rangesL rs neg).length (rgCells (rangesL rs neg)) ∧ Below w.heap.size w w' := by
  obtain ⟨i0, hi0, hz0, hz1, hz2⟩ := info_parts rgInfo
  have hsz : (Try.prog.info? 171).map (·.size) = some 256 := by kernel_rfl
  go_enter Try.func164, Try.ntmps164
  go_wp2_with fail
  refine (members_any A n c rs _ hr hn).mono ?_
  rintro e w1 ⟨rfl, hb1⟩
  go_wp2_with (refine wpList_store_mid rfl 171 (.tmp 6) (.tmp 9) rfl w1.heap.size 0 (rowV 256 fun x => .bool (inR rs x)) rfl rfl (by have := (Blk.new w1 171 Try.zeroCells171).there_; rw [zero72, rowV_size] at this; rw [zero72, rowV_size]; exact this) (by rw [hsz, rowV_size]) (rowV_one _ _ fun _ => rfl) ?_)
  have hblk := (Blk.new w1 171 Try.zeroCells171).setAll (cs := rowV 256 fun x => .bool (inR rs x)) (by rw [zero72, rowV_size, rowV_size])
  have hbw := below_setCells (hb1.alloc hb1.size (.cells Try.zeroCells171 171)) hb1.size 0 (rowV 256 fun x => .bool (inR rs x)).toList
  have hsize : w.heap.size ≤ w1.heap.size := hb1.size
  have hlt0 := hblk.lt
  generalize ((w1.alloc (.cells Try.zeroCells171 171)).setCells w1.heap.size 0 (rowV 256 fun x => .bool (inR rs x)).toList) = W at *
  generalize w1.heap.size = G at *
  clear hb1
  go_loopw [5, 10] (fun v i wr => ∃ k : Nat, k ≤ 256 ∧ i = .int .i64 k ∧ Blk wr G 171 (rowV 256 fun x => .bool (inR rs x)) ∧ wr.ownsRow w.heap.size 168 2 v (rgTo (memB rs neg) k).length (rgCells (rgTo (memB rs neg) k)) ∧ v.ownBlock ≠ some G ∧ Below w.heap.size w wr) (fun _ i _ => 256 - (intOf i).toNat)
  case atStart => exact ⟨0, by omega, rfl, hblk, World.ownsRow_nil _ _ _ _, by simp [Value.ownBlock], hbw⟩
  case round =>
    clear hblk hbw
    obtain ⟨k, hk, rfl, hblk, hown, hne, hbw⟩ := hrel
    have hB := hbw.size
    have hG := hblk.lt
    have hrl := rgTo_length (memB rs neg) k
    by_cases hlt : k < 256
    · have hlt' : (k : Int) < 256 := by omega
      have q1 : wr.cell? ⟨G, k, none⟩ = some (.bool (inR rs k)) := by rw [hblk.cell, rowV_get _ _ _ hlt]
      cases hm : memB rs neg k
      · -- not in: the round is left
        have hx : (inR rs k == neg) = true := by simp only [memB, bne_eq_false_iff_eq] at hm; rw [hm]; simp
        have HS := Lib.hid (rgTo_skip hm)
        clear hm
        obtain ⟨ao, cap, hv⟩ := own_form hown
        subst hv
        go_wp2
        go_roundw
        case rel => exact ⟨k + 1, by omega, by go_num, hblk, by rw [HS.out]; exact hown, hne, hbw⟩
        case measure => simp [intOf]; omega
      · have hx : (inR rs k == neg) = false := by simp only [memB, bne_iff_ne, ne_eq] at hm; simpa using hm
        have hku : ((UInt8.ofNat k).toNat : Int) = k := by simp; omega
        have HKU := Lib.hid hku
        clear hku
        by_cases hnew : k = 0 ∨ memB rs neg (k - 1) = false
        · have HS := Lib.hid (rgTo_new hm hnew)
          clear hm
          have hways : k = 0 ∨ (0 < k ∧ (inR rs (k - 1) == neg) = true) := by
            rcases Nat.eq_zero_or_pos k with h | h
            · exact Or.inl h
            · rcases hnew with h2 | h2
              · omega
              · exact Or.inr ⟨h, by simpa [memB] using h2⟩
          clear hnew
          obtain ⟨ao, cap, hv⟩ := own_form hown
          subst hv
          rcases hways with h0 | ⟨h0, h2⟩
          · subst h0
            go_wp2_with (at_builtin; refine wpList_append_lies _ rfl (.tmp 36) (.tmp 42) 22 rfl w.heap.size 168 i0 _ 2 2 Try.underlying22 hi0 hz0 hz1 hz2 rfl (by decide) _ _ _ rfl (hown.alloc _) ⟨wr.heap.size, 0, none⟩ 1 1 [.int .u8 0, .int .u8 0] rfl rfl (World.news_of_block (heap_alloc_new wr _)) (two_one _ _) (by decide) (by unfold maxLen; omega) (by omega) (by simp; omega) _ rfl ?_)
            intro g cap2 w2 hown2 hgrow hat hlt2
            go_wp2
            go_roundw
            case rel =>
              refine ⟨0 + 1, by omega, by go_num, (hblk.alloc _).grown hgrow (fun e => hne e.symm), ?_, own_ne hat hne (by simp; omega), (hbw.alloc hB _).grown hgrow (by simp; omega) (fun j hj => (hown.lt j hj).1)⟩
              rw [HS.out, rgCells_append, List.length_append]
              exact hown2
            case measure => simp [intOf]
          · have hi1 : ((k : Int) - 1).toNat = k - 1 := by omega
            have q2 : wr.cell? ⟨G, k - 1, none⟩ = some (.bool (inR rs (k - 1))) := by rw [hblk.cell, rowV_get _ _ _ (by omega)]
            go_wp2_with (at_builtin; refine wpList_append_lies _ rfl (.tmp 36) (.tmp 42) 22 rfl w.heap.size 168 i0 _ 2 2 Try.underlying22 hi0 hz0 hz1 hz2 rfl (by decide) _ _ _ rfl (hown.alloc _) ⟨wr.heap.size, 0, none⟩ 1 1 [.int .u8 k, .int .u8 k] rfl rfl (World.news_of_block (heap_alloc_new wr _)) (two_one _ _) (by decide) (by unfold maxLen; omega) (by omega) (by simp; omega) _ rfl ?_)
            intro g cap2 w2 hown2 hgrow hat hlt2
            go_wp2
            go_roundw
            case rel =>
              refine ⟨k + 1, by omega, by go_num, (hblk.alloc _).grown hgrow (fun e => hne e.symm), ?_, own_ne hat hne (by simp; omega), (hbw.alloc hB _).grown hgrow (by simp; omega) (fun j hj => (hown.lt j hj).1)⟩
              rw [HS.out, rgCells_append, List.length_append]
              rw [show rgCells [(UInt8.ofNat k, UInt8.ofNat k)] = [.int .u8 (k : Int), .int .u8 (k : Int)] by simp only [rgCells, List.flatMap_cons, List.flatMap_nil, HKU.out]; rfl]
              exact hown2
            case measure => simp [intOf]; omega
        · have h0 : 0 < k := by omega
          have h2m : memB rs neg (k - 1) = true := by
            cases h3 : memB rs neg (k - 1)
            · exact absurd (Or.inr h3) hnew
            · rfl
          have h2 : (inR rs (k - 1) == neg) = false := by simpa [memB] using h2m
          clear hnew
          have hi1 : ((k : Int) - 1).toNat = k - 1 := by omega
          have q2 : wr.cell? ⟨G, k - 1, none⟩ = some (.bool (inR rs (k - 1))) := by rw [hblk.cell, rowV_get _ _ _ (by omega)]
          obtain ⟨l, lo, e1, e2⟩ := rgTo_bump (m := memB rs neg) (k := k - 1) (by rw [Nat.sub_add_cancel h0]; exact hm) h2m
          clear h2m
          rw [Nat.sub_add_cancel h0] at e1 e2
          rw [e1] at hown hrl
          clear hm
          have HE2 := Lib.hid e2
          clear e1 e2
          obtain ⟨g, cap, rfl, hg0, hg1⟩ := hown.form (by simp)
          have hc1 : wr.cell? ⟨g, l.length * 2 + 1, none⟩ = some (.int .u8 (UInt8.ofNat (k - 1)).toNat) := by
            rw [hown.cellAt _ (by simp; omega)]
            exact (rgCells_get (l ++ [(lo, UInt8.ofNat (k - 1))]) l.length (lo, UInt8.ofNat (k - 1)) (by simp)).2
          have hf1 : wr.frozen? ⟨g, l.length * 2 + 1, none⟩ = false := hown.frozenAt _
          have hll : (l ++ [(lo, UInt8.ofNat (k - 1))]).length = l.length + 1 := by simp
          rw [hll] at hown hrl ⊢
          have hst := hown.stored (l.length * 2 + 1) (.int .u8 (UInt8.ofNat k).toNat)
          rw [rgCells_bump] at hst
          have HST := Lib.hid hst
          clear hst
          have hgG : G ≠ g := fun e => hne (by rw [e]; rfl)
          go_wp2
          go_roundw
          case rel =>
            refine ⟨k + 1, by omega, by go_num, hblk.far hgG _, ?_, hne, hbw.setCell hg0 _⟩
            rw [HE2.out, List.length_append]
            have h4 := HST.out.1
            rw [HKU.out] at h4
            exact h4
          case measure => simp [intOf]; omega
    · obtain rfl : k = 256 := by omega
      obtain ⟨ao, cap, hv⟩ := own_form hown
      subst hv
      go_wp2
      go_ret
      exact ⟨_, rfl, hown, hbw⟩
end Go.Proofs.Ytgcbcdbfeaepkaa
namespace Go.Proofs.Ytgcbcdbfeaepkaa
open Go.RowKit

inductive Tr where
  | mk (kind : Int) (rs : List (UInt8 × UInt8)) (kids : List Tr)

/-- The three cells cs are a node that reads as this tree, at most d deep; X: where its blocks may be. -/
def TreeAt (w : World) (X : Nat → Prop) : Nat → Tr → List Value → Prop
  | 0, _, _ => False
  | d + 1, .mk k rs kids, cs => ∃ A n c A' n' c', cs = [.int .i64 k, .slice A n c, .slice A' n' c'] ∧ n ≤ maxLen ∧ (n' ≤ maxLen ∧ n' ≤ c') ∧ RgAt w X A n rs ∧ kids.length = n' ∧
      (0 < n' → ∃ b o, A' = some ⟨b, o, none⟩ ∧ X b ∧ ∀ i t, kids[i]? = some t → ∃ v0 v1 v2, w.cell? ⟨b, o + i * 3, none⟩ = some v0 ∧ w.cell? ⟨b, o + i * 3 + 1, none⟩ = some v1 ∧ w.cell? ⟨b, o + i * 3 + 2, none⟩ = some v2 ∧ TreeAt w X d t [v0, v1, v2])
theorem TreeAt.keep {w w' : World} {X : Nat → Prop} (hk : ∀ b, X b → w'.heap[b]? = w.heap[b]?) : ∀ {d : Nat} {t : Tr} {cs : List Value}, TreeAt w X d t cs → TreeAt w' X d t cs
  | 0, _, _, h => h
  | d + 1, .mk k rs kids, cs, h => by
    obtain ⟨A, n, c, A', n', c', h1, h2, h2', h3, h4, h5⟩ := h
    refine ⟨A, n, c, A', n', c', h1, h2, h2', h3.keep hk, h4, fun hn => ?_⟩
    obtain ⟨b, o, hA, hX, hc⟩ := h5 hn
    refine ⟨b, o, hA, hX, fun i t ht => ?_⟩
    obtain ⟨v0, v1, v2, e0, e1, e2, ht'⟩ := hc i t ht
    have e := hk b hX
    exact ⟨v0, v1, v2, (World.cell?_of_block (a := ⟨b, o + i * 3, none⟩) e).trans e0, (World.cell?_of_block (a := ⟨b, o + i * 3 + 1, none⟩) e).trans e1, (World.cell?_of_block (a := ⟨b, o + i * 3 + 2, none⟩) e).trans e2, ht'.keep hk⟩
theorem TreeAt.mono {w : World} {X Y : Nat → Prop} (hXY : ∀ b, X b → Y b) : ∀ {d : Nat} {t : Tr} {cs : List Value}, TreeAt w X d t cs → TreeAt w Y d t cs
  | 0, _, _, h => h
  | d + 1, .mk k rs kids, cs, h => by
    obtain ⟨A, n, c, A', n', c', h1, h2, h2', h3, h4, h5⟩ := h
    refine ⟨A, n, c, A', n', c', h1, h2, h2', h3.mono hXY, h4, fun hn => ?_⟩
    obtain ⟨b, o, hA, hX, hc⟩ := h5 hn
    refine ⟨b, o, hA, hXY b hX, fun i t ht => ?_⟩
    obtain ⟨v0, v1, v2, e0, e1, e2, ht'⟩ := hc i t ht
    exact ⟨v0, v1, v2, e0, e1, e2, ht'.mono hXY⟩
theorem TreeAt.deeper {w : World} {X : Nat → Prop} : ∀ {d d' : Nat} {t : Tr} {cs : List Value}, TreeAt w X d t cs → d ≤ d' → TreeAt w X d' t cs
  | 0, _, _, _, h, _ => h.elim
  | d + 1, d', .mk k rs kids, cs, h, hd => by
    match d', hd with
    | d' + 1, hd =>
      obtain ⟨A, n, c, A', n', c', h1, h2, h2', h3, h4, h5⟩ := h
      refine ⟨A, n, c, A', n', c', h1, h2, h2', h3, h4, fun hn => ?_⟩
      obtain ⟨b, o, hA, hX, hc⟩ := h5 hn
      refine ⟨b, o, hA, hX, fun i t ht => ?_⟩
      obtain ⟨v0, v1, v2, e0, e1, e2, ht'⟩ := hc i t ht
      exact ⟨v0, v1, v2, e0, e1, e2, ht'.deeper (by omega)⟩
/-- A node's three cells. -/
theorem TreeAt.form {w : World} {X : Nat → Prop} {d : Nat} {t : Tr} {cs : List Value} (h : TreeAt w X d t cs) : ∃ a b c, cs = [a, b, c] := by
  match d, t, h with
  | d + 1, .mk k rs kids, h => obtain ⟨A, n, c, A', n', c', h1, _⟩ := h; exact ⟨_, _, _, h1⟩

theorem bcell {W w1 : World} (hb : Below W.heap.size W w1) : (∀ b o, b < W.heap.size → w1.cell? ⟨b, o, none⟩ = W.cell? ⟨b, o, none⟩) ∧ (∀ b o, b < W.heap.size → w1.frozen? ⟨b, o, none⟩ = W.frozen? ⟨b, o, none⟩) :=
  ⟨fun b o h => hb.cell (p := ⟨b, o, none⟩) h, fun b o h => hb.frozen (p := ⟨b, o, none⟩) h⟩
end Go.Proofs.Ytgcbcdbfeaepkaa
namespace Go.Proofs.Ytgcbcdbfeaepkaa

/-- A tree and how many bytes it takes; or an error and its place from here on. -/
inductive Pr where
  | ok (t : Tr) (n : Nat)
  | err (code : Int) (off : Nat)
def Pr.shift (m : Nat) : Pr → Pr
  | .ok t n => .ok t (m + n)
  | .err c o => .err c (m + o)
def Ir.pre (acc : List (UInt8 × UInt8)) (m : Nat) : Ir → Ir
  | .ok rs n => .ok (acc ++ rs) (m + n)
  | .err c o => .err c (m + o)
theorem Ir.pre_nil (r : Ir) : Ir.pre [] 0 r = r := by cases r <;> simp [Ir.pre]
theorem Ir.pre_more (acc : List (UInt8 × UInt8)) (m : Nat) (lo hi : UInt8) (n : Nat) (r : Ir) : Ir.pre acc m (r.more lo hi n) = Ir.pre (acc ++ [(lo, hi)]) (m + n) r := by
  cases r <;> simp [Ir.pre, Ir.more, Nat.add_assoc]
/-- The items from here on, with fuel enough. -/
def itemsF (L : List UInt8 → Lr) (first : Bool) (l : List UInt8) : Ir := itemsP L (l.length + 1) first l
theorem itemsF_end {L : List UInt8 → Lr} {l : List UInt8} (h : starts [93] l = true) : itemsF L false l = .ok [] 1 := by
  unfold itemsF itemsP; simp [h]
theorem itemsF_err {L : List UInt8 → Lr} {l : List UInt8} {first : Bool} {c : Int} {o : Nat} (h : (!first && starts [93] l) = false) (hr : rangeP L l = .err c o) : itemsF L first l = .err c o := by
  unfold itemsF itemsP; rw [h, hr]; rfl
theorem itemsF_more {L : List UInt8 → Lr} (hL : GoodL L) {l : List UInt8} {first : Bool} {lo hi : UInt8} {n : Nat} (h : (!first && starts [93] l) = false) (hr : rangeP L l = .ok lo hi n) :
    itemsF L first l = (itemsF L false (l.drop n)).more lo hi n := by
  unfold itemsF
  have hn := rangeP_ok hL hr
  rw [itemsP, h, hr]
  simp only [Bool.false_eq_true, if_false]
  rw [itemsP_fuel hL l.length ((l.drop n).length + 1) false (l.drop n) (by rw [List.length_drop]; omega) (by omega)]
/-- A class, behind its [ and its sign of the others. -/
def classP (L : List UInt8 → Lr) (sign : UInt8) (l : List UInt8) : Pr :=
  if starts [sign] l then
    match itemsF L true (l.drop 1) with
    | .ok rs n => .ok (.mk 1 (rangesL rs true) []) (1 + n)
    | .err c o => .err c (1 + o)
  else
    match itemsF L true l with
    | .ok rs n => .ok (.mk 1 (rangesL rs false) []) n
    | .err c o => .err c o
def anyT : Tr := .mk 1 (rangesL [] true) []
def pieceG (l : List UInt8) : Pr :=
  if starts [63] l then .ok anyT 1
  else if starts [42] l then .ok (.mk 4 [] [anyT]) 1
  else if starts [91] l then (classP letterG 33 (l.drop 1)).shift 1
  else match letterG l with
    | .ok c n => .ok (.mk 1 [(c, c)] []) n
    | .err c o => .err c o
theorem itemsP_bd {L : List UInt8 → Lr} (hL : GoodL L) : ∀ (f : Nat) (b : Bool) (l : List UInt8), l.length < f → (∀ rs n, itemsP L f b l = .ok rs n → 1 ≤ n ∧ n ≤ l.length) ∧ (∀ c o, itemsP L f b l = .err c o → o ≤ l.length)
  | 0, _, _, h => by omega
  | f + 1, b, l, h => by
    unfold itemsP
    by_cases h1 : (!b && starts [93] l) = true
    · rw [if_pos h1]
      refine ⟨fun rs n e => ?_, fun c o e => by cases e⟩
      injection e with _ e
      have h2 : starts [93] l = true := by simp only [Bool.and_eq_true] at h1; exact h1.2
      unfold starts at h2
      rw [List.isPrefixOf_iff_prefix] at h2
      have := h2.length_le
      simp at this; omega
    · rw [if_neg h1]
      cases hr : rangeP L l with
      | err c o => exact ⟨(fun rs n e => by simp at e), (fun c' o' e => by have := rangeP_err hL hr; simp at e; omega)⟩
      | ok lo hi n =>
        have hn := rangeP_ok hL hr
        have ih := itemsP_bd hL f false (l.drop n) (by rw [List.length_drop]; omega)
        rw [List.length_drop] at ih
        cases hi' : itemsP L f false (l.drop n) with
        | ok rs m =>
          have := ih.1 rs m hi'
          exact ⟨fun rs' n' e => by simp [hi', Ir.more] at e; omega, fun c o e => by simp [hi', Ir.more] at e⟩
        | err c o =>
          have := ih.2 c o hi'
          exact ⟨fun rs' n' e => by simp [hi', Ir.more] at e, fun c' o' e => by simp [hi', Ir.more] at e; omega⟩
theorem itemsF_bd {L : List UInt8 → Lr} (hL : GoodL L) (b : Bool) (l : List UInt8) : (∀ rs n, itemsF L b l = .ok rs n → 1 ≤ n ∧ n ≤ l.length) ∧ (∀ c o, itemsF L b l = .err c o → o ≤ l.length) := itemsP_bd hL _ b l (by omega)
theorem starts_len {c : UInt8} {l : List UInt8} (h : starts [c] l = true) : 1 ≤ l.length := by
  unfold starts at h
  rw [List.isPrefixOf_iff_prefix] at h
  exact h.length_le
theorem classP_bd {L : List UInt8 → Lr} (hL : GoodL L) (sg : UInt8) (l : List UInt8) : (∀ t n, classP L sg l = .ok t n → 1 ≤ n ∧ n ≤ l.length) ∧ (∀ c o, classP L sg l = .err c o → o ≤ l.length) := by
  unfold classP
  by_cases h : starts [sg] l = true
  · have h1 := starts_len h
    rw [if_pos h]
    have hb := itemsF_bd hL true (l.drop 1)
    rw [List.length_drop] at hb
    cases hi : itemsF L true (l.drop 1) with
    | ok rs n => have := hb.1 rs n hi; exact ⟨fun t m e => by simp at e; omega, fun c o e => by simp at e⟩
    | err c o => have := hb.2 c o hi; exact ⟨fun t m e => by simp at e, fun c o e => by simp at e; omega⟩
  · rw [if_neg h]
    have hb := itemsF_bd hL true l
    cases hi : itemsF L true l with
    | ok rs n => have := hb.1 rs n hi; exact ⟨fun t m e => by simp at e; omega, fun c o e => by simp at e⟩
    | err c o => have := hb.2 c o hi; exact ⟨fun t m e => by simp at e, fun c o e => by simp at e; omega⟩
theorem pieceG_bd (l : List UInt8) : (∀ t n, pieceG l = .ok t n → 1 ≤ n ∧ n ≤ l.length) ∧ (∀ c o, pieceG l = .err c o → o ≤ l.length) := by
  unfold pieceG
  by_cases h1 : starts [63] l = true
  · have := starts_len h1
    rw [if_pos h1]; exact ⟨fun t m e => by simp at e; omega, fun c o e => by simp at e⟩
  · rw [if_neg h1]
    by_cases h2 : starts [42] l = true
    · have := starts_len h2
      rw [if_pos h2]; exact ⟨fun t m e => by simp at e; omega, fun c o e => by simp at e⟩
    · rw [if_neg h2]
      by_cases h3 : starts [91] l = true
      · have := starts_len h3
        rw [if_pos h3]
        have hb := classP_bd good_letterG 33 (l.drop 1)
        rw [List.length_drop] at hb
        cases hi : classP letterG 33 (l.drop 1) with
        | ok t n => have := hb.1 t n hi; exact ⟨fun t m e => by simp [Pr.shift] at e; omega, fun c o e => by simp [Pr.shift] at e⟩
        | err c o => have := hb.2 c o hi; exact ⟨fun t m e => by simp [Pr.shift] at e, fun c o e => by simp [Pr.shift] at e; omega⟩
      · rw [if_neg h3]
        have hb := good_letterG l
        cases hi : letterG l with
        | ok c n => have := hb.1 c n hi; exact ⟨fun t m e => by simp at e; omega, fun c o e => by simp at e⟩
        | err c o => have := hb.2 c o hi; exact ⟨fun t m e => by simp at e, fun c o e => by simp at e; omega⟩
/-- All pieces. -/
inductive Ks where
  | ok (ts : List Tr)
  | err (code : Int) (off : Nat)
def Ks.pre (acc : List Tr) (m : Nat) : Ks → Ks
  | .ok ts => .ok (acc ++ ts)
  | .err c o => .err c (m + o)
theorem Ks.pre_nil (r : Ks) : Ks.pre [] 0 r = r := by cases r <;> simp [Ks.pre]
theorem Ks.pre_pre (a b : List Tr) (m n : Nat) (r : Ks) : Ks.pre a m (Ks.pre b n r) = Ks.pre (a ++ b) (m + n) r := by cases r <;> simp [Ks.pre, Nat.add_assoc]
def piecesP : Nat → List UInt8 → Ks
  | 0, _ => .err 0 0
  | f + 1, l => if l.isEmpty then .ok [] else
    match pieceG l with
    | .err c o => .err c o
    | .ok t n => Ks.pre [t] n (piecesP f (l.drop n))
theorem piecesP_fuel : ∀ (f g : Nat) (l : List UInt8), l.length < f → l.length < g → piecesP f l = piecesP g l := by
  intro f
  induction f with
  | zero => intro g l h; omega
  | succ f ih =>
    intro g l hf hg
    match g, hg with
    | g + 1, hg =>
      unfold piecesP
      split
      · rfl
      · split
        · rfl
        · rename_i t n h
          have := (pieceG_bd l).1 t n h
          rw [ih g (l.drop n) (by rw [List.length_drop]; omega) (by rw [List.length_drop]; omega)]
def piecesF (l : List UInt8) : Ks := piecesP (l.length + 1) l
theorem piecesF_nil : piecesF [] = .ok [] := rfl
theorem piecesF_err {l : List UInt8} (hl : l ≠ []) {c : Int} {o : Nat} (h : pieceG l = .err c o) : piecesF l = .err c o := by
  unfold piecesF piecesP; rw [if_neg (by simpa using hl), h]
theorem piecesF_more {l : List UInt8} (hl : l ≠ []) {t : Tr} {n : Nat} (h : pieceG l = .ok t n) : piecesF l = Ks.pre [t] n (piecesF (l.drop n)) := by
  unfold piecesF
  have hn := (pieceG_bd l).1 t n h
  rw [piecesP, if_neg (by simpa using hl), h]
  simp only
  rw [piecesP_fuel l.length ((l.drop n).length + 1) (l.drop n) (by rw [List.length_drop]; omega) (by omega)]
theorem piecesP_err : ∀ (f : Nat) (l : List UInt8), l.length < f → ∀ c o, piecesP f l = .err c o → o ≤ l.length
  | 0, _, h => by omega
  | f + 1, l, h => by
    intro c o e
    unfold piecesP at e
    split at e
    · cases e
    · split at e
      · rename_i c' o' hp
        injection e with _ e
        have := (pieceG_bd l).2 _ _ hp; omega
      · rename_i t n hp
        have hn := (pieceG_bd l).1 t n hp
        have ih := piecesP_err f (l.drop n) (by rw [List.length_drop]; omega)
        cases hk : piecesP f (l.drop n) with
        | ok ts => simp [hk, Ks.pre] at e
        | err c' o' =>
          have := ih c' o' hk
          rw [List.length_drop] at this
          simp [hk, Ks.pre] at e; omega
def zeroT : Tr := .mk 0 [] []
/-- glob.Parse: the tree, the error's number, its place. -/
def parseG (l : List UInt8) : Tr × Int × Nat :=
  if 256 < l.length then (zeroT, 2, 0)
  else match piecesF l with
    | .ok ts => (.mk 2 [] ts, 0, 0)
    | .err c o => (zeroT, c, o)
end Go.Proofs.Ytgcbcdbfeaepkaa
