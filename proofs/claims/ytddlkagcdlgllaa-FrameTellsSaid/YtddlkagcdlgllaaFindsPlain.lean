/- PLAIN MATHEMATICS: frames one behind the other, cut off somewhere. -/
import Derived.Test.YtddlkagcdlgllaaScanPlain
namespace Go.Proofs.Ytddlkagcdlgllaa.Pl

/-- The frames of these texts, one behind the other. -/
def flat (ls : List (List UInt8)) : List UInt8 := (ls.map frame).flatten
/-- Where the first j of them end. -/
def fin (ls : List (List UInt8)) (j : Nat) : Nat := (flat (ls.take j)).length
theorem flat_append (a b : List (List UInt8)) : flat (a ++ b) = flat a ++ flat b := by simp [flat]
theorem flat_cons (l : List UInt8) (ls : List (List UInt8)) : flat (l :: ls) = frame l ++ flat ls := rfl
theorem take_more {ls : List (List UInt8)} {j : Nat} {l : List UInt8} (h : ls[j]? = some l) : ls.take (j + 1) = ls.take j ++ [l] := by
  rw [List.take_add_one, h]
  rfl
theorem flat_more {ls : List (List UInt8)} {j : Nat} {l : List UInt8} (h : ls[j]? = some l) : flat (ls.take (j + 1)) = flat (ls.take j) ++ frame l := by
  rw [take_more h, flat_append]
  simp [flat]
theorem fin_more {ls : List (List UInt8)} {j : Nat} {l : List UInt8} (h : ls[j]? = some l) : fin ls (j + 1) = fin ls j + (8 + l.length) := by
  unfold fin
  rw [flat_more h, List.length_append, frame_length]
theorem fin_all {ls : List (List UInt8)} : fin ls ls.length = (flat ls).length := by unfold fin; rw [List.take_length]
theorem fin_zero {ls : List (List UInt8)} : fin ls 0 = 0 := rfl
theorem fin_le (ls : List (List UInt8)) (j : Nat) (h : ∀ i l, i < j → ls[i]? = some l → l.length ≤ 4096) (hj : j ≤ ls.length) : fin ls j ≤ 4104 * j := by
  induction j with
  | zero => simp [fin, flat]
  | succ j ih =>
    have hg : ls[j]? = some ls[j] := List.getElem?_eq_getElem _
    rw [fin_more hg]
    have := ih (fun i l hi => h i l (by omega)) (by omega)
    have := h j _ (by omega) hg
    omega

theorem scan_flat (ts : List (List UInt8)) (R : List UInt8) (h : ∀ t ∈ ts, t.length ≤ 16384) : scan (flat ts ++ R) = (ts ++ (scan R).1, (flat ts).length + (scan R).2) := by
  induction ts with
  | nil => simp [flat]
  | cons t ts ih =>
    rw [flat_cons, List.append_assoc, scan_frame _ _ (h t List.mem_cons_self), ih fun x hx => h x (List.mem_cons_of_mem _ hx)]
    refine Prod.ext ?_ ?_
    · simp
    · show 8 + t.length + ((flat ts).length + (scan R).2) = (frame t ++ flat ts).length + (scan R).2
      rw [List.length_append, frame_length]
      omega
/-- All that are whole are found, and no more. -/
theorem finds {ls : List (List UInt8)} {j n : Nat} (hj : j ≤ ls.length) (hls : ∀ t ∈ ls, t.length ≤ 16384) (h1 : fin ls j ≤ n) (h2 : j < ls.length → n < fin ls (j + 1)) : scan ((flat ls).take n) = (ls.take j, fin ls j) := by
  have e : flat ls = flat (ls.take j) ++ flat (ls.drop j) := by rw [← flat_append, List.take_append_drop]
  have et : (flat ls).take n = flat (ls.take j) ++ (flat (ls.drop j)).take (n - fin ls j) := by
    rw [e, List.take_append, List.take_of_length_le (show (flat (ls.take j)).length ≤ n from h1)]
    rfl
  have hz : (nx ((flat (ls.drop j)).take (n - fin ls j))).2 ≠ 0 := by
    by_cases hlt : j < ls.length
    · have hg : ls[j]? = some ls[j] := List.getElem?_eq_getElem _
      have h3 := h2 hlt
      rw [fin_more hg] at h3
      rw [List.drop_eq_getElem_cons hlt, flat_cons, List.take_append_of_le_length (by rw [frame_length]; omega)]
      exact nx_cut _ _ (by omega) (hls _ (List.getElem_mem _))
    · rw [List.drop_of_length_le (by omega)]
      rw [nx_few (by simp [flat])]
      decide
  rw [et, scan_flat _ _ fun t ht => hls t (List.mem_of_mem_take ht), scan_stop hz]
  simp [fin]
end Go.Proofs.Ytddlkagcdlgllaa.Pl
