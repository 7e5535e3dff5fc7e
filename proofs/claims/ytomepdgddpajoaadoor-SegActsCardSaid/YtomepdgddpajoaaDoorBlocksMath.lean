/- Which blocks the laws of layer 7 lay: each of some numbers once. -/
namespace Go.Proofs.YtomepdgddpajoaaDoor.ListMath
set_option linter.unusedVariables false

def addBlk (acc : List Nat) (x : Nat) : List Nat := if acc.contains (x % 120) then acc else acc ++ [x % 120]
def keysN (l : List Nat) : List Nat := l.foldl addBlk []
def blkAt (k : Nat) : Nat := 16 + 16 * k
def blocksN (l : List Nat) : List Nat := (keysN l).map blkAt
theorem keysN_snoc (l : List Nat) (x : Nat) : keysN (l ++ [x]) = addBlk (keysN l) x := by simp [keysN, List.foldl_append]
structure Once (acc : List Nat) : Prop where
  nodup : acc.Nodup
  lt : ∀ k ∈ acc, k < 120
theorem Once.add {acc : List Nat} (h : Once acc) (x : Nat) : Once (addBlk acc x) := by
  unfold addBlk
  split
  · exact h
  · rename_i hc
    refine ⟨?_, ?_⟩
    · rw [List.nodup_append]
      refine ⟨h.nodup, by simp, fun a ha b hb => ?_⟩
      rw [List.mem_singleton.1 hb]
      rintro rfl
      exact hc (List.contains_iff_mem.2 ha)
    · intro k hk
      rcases List.mem_append.1 hk with hk | hk
      · exact h.lt k hk
      · rw [List.mem_singleton.1 hk]; omega
theorem once_fold (l : List Nat) : ∀ acc, Once acc → Once (l.foldl addBlk acc) := by
  induction l with
  | nil => exact fun _ h => h
  | cons x t ih => exact fun acc h => ih _ (h.add x)
theorem keysN_once (l : List Nat) : Once (keysN l) := once_fold l [] ⟨List.nodup_nil, fun _ h => by cases h⟩
theorem nodup_le : ∀ (n : Nat) (acc : List Nat), acc.Nodup → (∀ k ∈ acc, k < n) → acc.length ≤ n
  | 0, acc, _, h => by
    cases acc with
    | nil => exact Nat.le_refl _
    | cons x t => have := h x (List.mem_cons_self ..); omega
  | n + 1, acc, hn, h => by
    have h1 := nodup_le n (acc.erase n) (hn.erase n) (fun k hk => by
      have h2 := (hn.mem_erase_iff).1 hk
      have := h k h2.2
      omega)
    have h3 := List.length_erase (a := n) (l := acc)
    by_cases hm : n ∈ acc
    · rw [h3, if_pos hm] at h1; omega
    · rw [h3, if_neg hm] at h1; omega
theorem Once.length {acc : List Nat} (h : Once acc) : acc.length ≤ 120 := by
  exact nodup_le 120 acc h.nodup h.lt
theorem blocksN_length (l : List Nat) : (blocksN l).length = (keysN l).length := by simp [blocksN]
theorem blocksN_le (l : List Nat) : (blocksN l).length ≤ 120 := by rw [blocksN_length]; exact (keysN_once l).length
theorem blocksN_mem {l : List Nat} {a : Nat} (h : a ∈ blocksN l) : ∃ k, k < 120 ∧ a = 16 + 16 * k := by
  obtain ⟨k, hk, rfl⟩ := List.mem_map.1 h
  exact ⟨k, (keysN_once l).lt k hk, rfl⟩
theorem blocksN_nodup (l : List Nat) : (blocksN l).Nodup := by
  unfold blocksN
  rw [List.Nodup, List.pairwise_map]
  refine List.Pairwise.imp ?_ (keysN_once l).nodup
  intro a b h
  simp only [blkAt]; omega
end Go.Proofs.YtomepdgddpajoaaDoor.ListMath
