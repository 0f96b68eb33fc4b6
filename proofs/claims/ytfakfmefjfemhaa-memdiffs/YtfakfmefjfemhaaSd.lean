/- slices.Sort and slices.Compact at uint64, over lists: what lies in a row of one's own. -/
import Derived.Test.YtfakfmefjfemhaaSc
namespace Go.Proofs.Ytfakfmefjfemhaa
set_option linter.unusedVariables false
set_option linter.unusedSimpArgs false
open Go.ChangeShapes Go.WideShapes Go.ChangeAt Go.RowKit Go.Lib
open Go.Sort (swp ltInt SortedIn PermIn Below)

/-- v is a slice of one's own, behind block B, with the words zs -/
def Lst (w : World) (B : Nat) (v : Value) (zs : List Int) : Prop := w.ownsRow B 30 1 v zs.length (zs.map (Value.int .u64))

theorem Lst.form {w : World} {B : Nat} {v : Value} {zs : List Int} (h : Lst w B v zs) : (v = .slice none 0 0 ∧ zs = []) ∨ ∃ g cap, v = .slice (some ⟨g, 0, none⟩) zs.length cap ∧ B ≤ g ∧ zs.length ≤ cap ∧ cap ≤ maxLen ∧ Row w g cap zs.toArray := by
  rcases h.2 with ⟨h1, h2⟩ | ⟨g, cap, cur, h1, h2, h3, h4, h5, h6, h7⟩
  · exact Or.inl ⟨h1, List.length_eq_zero_iff.1 h2⟩
  · refine Or.inr ⟨g, cap, h1, h2, h4, h5, cur, h3, by omega, by simpa using h4, fun i hi => ?_⟩
    have hi' : i < zs.length := by simpa using hi
    have e : (cur.toList.take (zs.length * 1))[i]? = (zs.map (Value.int .u64))[i]? := by rw [h7]
    rw [List.getElem?_take, if_pos (by omega), Array.getElem?_toList] at e
    rw [e, List.getElem?_map, List.getElem?_eq_getElem hi']
    simp [getElem!_pos, hi']

theorem Row.lst {w : World} {B g cap : Nat} {d : Array Int} (h : Row w g cap d) (hB : B ≤ g) (hc : cap ≤ maxLen) : Lst w B (.slice (some ⟨g, 0, none⟩) d.toList.length cap) d.toList := by
  obtain ⟨c, h1, h2, h3, h4⟩ := h
  refine ⟨by simp, Or.inr ⟨g, cap, c, rfl, hB, h1, by simpa using h3, hc, by omega, ?_⟩⟩
  apply List.ext_getElem?
  intro i
  rw [List.getElem?_take]
  by_cases hi : i < d.size
  · rw [if_pos (by simpa using hi), Array.getElem?_toList, h4 i hi, List.getElem?_map, Array.getElem?_toList, Array.getElem?_eq_getElem hi, getElem!_pos d i hi]
    rfl
  · rw [if_neg (by simpa using hi), List.getElem?_map, Array.getElem?_toList, Array.getElem?_eq_none (by omega)]
    rfl

theorem Lst.len {w : World} {B : Nat} {v : Value} {zs : List Int} (h : Lst w B v zs) : ∃ A c, v = .slice A zs.length c := by
  rcases h.form with ⟨h1, h2⟩ | ⟨g, cap, h1, _⟩
  · exact ⟨none, 0, by rw [h1, h2]; rfl⟩
  · exact ⟨_, _, h1⟩

theorem below_refl (B : Nat) (w : World) : Go.RowKit.Below B w w := Go.RowKit.Below.refl B w

theorem Srt.below {w w' : World} {g N B : Nat} {d : Array Int} (h : Srt w w' g N d) (hg : B ≤ g) (hB : B ≤ w.heap.size) : Go.RowKit.Below B w w' := h.turn.below (fun i hi => by rw [hi]; exact hg) hB

theorem sort_lst (w : World) (B : Nat) (v : Value) (zs : List Int) (h : Lst w B v zs) (hB : B ≤ w.heap.size) (hn : zs.length < 50) :
    Calls Try.prog 52 #[v] w fun e w' => e = .returned (.tuple #[]) ∧ ∃ zs', zs'.Perm zs ∧ zs'.Pairwise (· ≤ ·) ∧ Lst w' B v zs' ∧ Go.RowKit.Below B w w' := by
  rcases h.form with ⟨rfl, rfl⟩ | ⟨g, cap, rfl, h2, h3, h4, h5⟩
  · refine (sort_nil w).mono ?_
    rintro e w' ⟨rfl, rfl⟩
    exact ⟨rfl, [], List.Perm.refl _, List.Pairwise.nil, h, below_refl _ _⟩
  · have := sort_any w g cap cap zs.toArray h5 (by simpa using hn)
    rw [List.size_toArray] at this
    refine this.mono ?_
    rintro e w' ⟨rfl, d', k1, k2, k3⟩
    have hs : d'.size = zs.length := by simpa using k2.1
    have hl : d'.toList.length = zs.length := by simpa using hs
    refine ⟨rfl, d'.toList, ?_, ?_, ?_, k1.below h2 hB⟩
    · have := k2.2.2
      rw [← hs, Array.extract_size] at this
      rw [hs] at this
      simpa using this
    · rw [List.pairwise_iff_getElem]
      intro i j hi hj hij
      have := k3 i j (Nat.zero_le _) hij (by omega)
      rw [getElem!_pos d' i (by simpa using hi), getElem!_pos d' j (by simpa using hj)] at this
      simp only [ltInt, decide_eq_false_iff_not] at this
      simp only [Array.getElem_toList]
      omega
    · rw [← hl]
      exact k1.row.lst h2 h4

theorem comp_rising {d : Array Int} (hs : ∀ i j, i < j → j < d.size → d[i]! ≤ d[j]!) : ∀ m, m ≤ d.size → (compactUpTo d m).Pairwise (· < ·) ∧ (∀ x, x ∈ compactUpTo d m ↔ ∃ i, i < m ∧ d[i]! = x) := by
  intro m
  induction m with
  | zero => intro _; exact ⟨by simp [compactUpTo], by simp [compactUpTo]⟩
  | succ m ih =>
    intro hm
    obtain ⟨h1, h2⟩ := ih (by omega)
    rw [compactUpTo_succ]
    by_cases hk : keeps d m = true
    · rw [if_pos hk]
      refine ⟨List.pairwise_append.2 ⟨h1, by simp, fun x hx y hy => ?_⟩, fun x => ?_⟩
      · simp at hy; subst hy
        obtain ⟨i, hi, rfl⟩ := (h2 x).1 hx
        have h3 : m ≠ 0 := by omega
        have h4 : d[m]! ≠ d[m - 1]! := by simpa [keeps, h3] using hk
        have h5 := hs (m - 1) m (by omega) (by omega)
        have h6 : d[i]! ≤ d[m - 1]! := by
          by_cases e : i = m - 1
          · rw [e]; exact Int.le_refl _
          · exact hs i (m - 1) (by omega) (by omega)
        omega
      · rw [List.mem_append, h2 x]
        constructor
        · rintro (⟨i, hi, e⟩ | hx)
          · exact ⟨i, by omega, e⟩
          · simp at hx; exact ⟨m, by omega, hx.symm⟩
        · rintro ⟨i, hi, e⟩
          by_cases him : i = m
          · subst him; right; simp [e]
          · left; exact ⟨i, by omega, e⟩
    · have hk' : keeps d m = false := by simpa using hk
      have h3 : m ≠ 0 := by intro e; subst e; simp [keeps] at hk'
      have h4 : d[m]! = d[m - 1]! := by
        have := hk'
        simp only [keeps, decide_eq_false_iff_not, not_or] at this
        exact Decidable.not_not.1 this.2
      rw [hk', if_neg (by simp), List.append_nil]
      refine ⟨h1, fun x => ?_⟩
      rw [h2 x]
      constructor
      · rintro ⟨i, hi, e⟩
        exact ⟨i, by omega, e⟩
      · rintro ⟨i, hi, e⟩
        by_cases him : i = m
        · subst him; exact ⟨i - 1, by omega, by rw [← e, h4]⟩
        · exact ⟨i, by omega, e⟩

theorem compact_lst (w : World) (B : Nat) (v : Value) (zs : List Int) (h : Lst w B v zs) (hs : zs.Pairwise (· ≤ ·)) (hB : B ≤ w.heap.size) (hn : zs.length < 50) :
    Calls Try.prog 53 #[v] w fun e w' => ∃ v' ps, e = .returned v' ∧ ps.Pairwise (· < ·) ∧ (∀ x, x ∈ ps ↔ x ∈ zs) ∧ Lst w' B v' ps ∧ Go.RowKit.Below B w w' := by
  rcases h.form with ⟨rfl, rfl⟩ | ⟨g, cap, rfl, h2, h3, h4, h5⟩
  · refine (compact_nil w).mono ?_
    rintro e w' ⟨rfl, rfl⟩
    exact ⟨_, [], rfl, List.Pairwise.nil, fun _ => Iff.rfl, h, below_refl _ _⟩
  · have := compact_any w g cap cap zs.toArray h5 (by simpa using hn) (by simpa using h3)
    rw [List.size_toArray] at this
    refine this.mono ?_
    rintro e w' ⟨rfl, k1⟩
    obtain ⟨r1, r2⟩ := comp_rising (d := zs.toArray) (fun i j hij hj => by
      have hj' : j < zs.length := by simpa using hj
      have := List.pairwise_iff_getElem.1 hs i j (by omega) hj' hij
      rw [getElem!_pos _ i (by simp; omega), getElem!_pos _ j (by simpa using hj')]
      simpa using this) zs.length (by simp)
    refine ⟨_, _, rfl, r1, fun x => ?_, k1.row.lst h2 h4, k1.below h2 hB⟩
    rw [r2 x, List.mem_iff_getElem]
    constructor
    · rintro ⟨i, hi, e⟩
      rw [getElem!_pos _ i (by simpa using hi)] at e
      exact ⟨i, hi, by simpa using e⟩
    · rintro ⟨i, hi, e⟩
      exact ⟨i, hi, by rw [getElem!_pos _ i (by simpa using hi)]; simpa using e⟩

end Go.Proofs.Ytfakfmefjfemhaa
