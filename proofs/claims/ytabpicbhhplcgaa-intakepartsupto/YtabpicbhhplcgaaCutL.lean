/-
  The walk of 'cut'.
-/
import Derived.Test.YtabpicbhhplcgaaKit
import Derived.Test.YtabpicbhhplcgaaPlain
import Derived.Deep.Cut
namespace Go.Proofs.Ytabpicbhhplcgaa
open Go.RowKit

def cutL (l : List UInt8) : List UInt8 := match find l with | some k => l.take k | none => l
/-- No end begins ahead of k. -/
def NoEnd (l : List UInt8) (k : Nat) : Prop := ∀ j, j < k → ¬ (l[j]? = some 13 ∧ l[j + 1]? = some 10)
theorem find_at : ∀ {l : List UInt8} {k : Nat}, NoEnd l k → l[k]? = some 13 → l[k + 1]? = some 10 → find l = some k
  | [], _, _, h, _ => by simp at h
  | x :: r, 0, _, h, g => by
    unfold find
    rw [if_pos ⟨by simpa using h, by cases r with | nil => simp at g | cons y r => simpa using g⟩]
  | x :: r, k + 1, hn, h, g => by
    have h0 := hn 0 (by omega)
    unfold find
    rw [if_neg (fun e => h0 ⟨by simpa using e.1, by cases r with | nil => simp at e | cons y r => simpa using e.2⟩), find_at (l := r) (k := k) (fun j hj e => hn (j + 1) (by omega) (by simpa using e)) (by simpa using h) (by simpa using g)]
    rfl
theorem find_no : ∀ {l : List UInt8} {k : Nat}, NoEnd l k → l.length ≤ k + 1 → find l = none
  | [], _, _, _ => rfl
  | x :: r, 0, _, h => by
    have : r = [] := List.eq_nil_of_length_eq_zero (by simp at h; simpa using h)
    subst this
    unfold find; simp [find]
  | x :: r, k + 1, hn, h => by
    have h0 := hn 0 (by omega)
    unfold find
    rw [if_neg (fun e => h0 ⟨by simpa using e.1, by cases r with | nil => simp at e | cons y r => simpa using e.2⟩), find_no (l := r) (k := k) (fun j hj e => hn (j + 1) (by omega) (by simpa using e)) (by simp at h; omega)]
    rfl
theorem str_get (s : ByteArray) (k : Nat) (h : k < s.size) : s.data.toList[k]? = some s[k] := by
  show s.data.toList[k]? = some (s.data[k]'h)
  rw [Array.getElem?_toList]
  exact Array.getElem?_eq_getElem h
theorem extract_list (s : ByteArray) (k : Nat) : s.extract 0 k = ⟨(s.data.toList.take k).toArray⟩ := by
  have : (s.extract 0 k).data = (s.data.toList.take k).toArray := by
    apply Array.toList_inj.1
    simp [ByteArray.data_extract, Array.toList_extract]
  cases h : s.extract 0 k with
  | mk d => rw [h] at this; rw [← this]
theorem byte_is {x : UInt8} {n : Nat} (hn : n < 256) : x.toNat = n ↔ x = UInt8.ofNat n := by
  constructor
  · intro h; rw [← h]; exact (UInt8.ofNat_toNat).symm
  · intro h; rw [h, UInt8.toNat_ofNat']; omega

set_option maxHeartbeats 1000000 in
set_option maxRecDepth 1000000 in
theorem cutS_any (s : ByteArray) (w : World) (hs : s.size ≤ 4611686018427387904) :
    Calls Try.prog 23 #[.string s] w fun e w' => e = .returned (.string ⟨(cutL s.data.toList).toArray⟩) ∧ w' = w := by
  have hlen : s.data.toList.length = s.size := by simp
  have HL : Hid (s.data.toList.length = s.size) := hlen
  clear hlen
  go_enter Try.func23, Try.ntmps23
  go_wp2
  go_loopg [3] s.size (fun gk i wr => ∃ k : Nat, i = .int .i64 k ∧ k ≤ s.size ∧ s.size - k ≤ gk ∧ wr = w ∧ Hid (NoEnd s.data.toList k))
  case atStart => exact ⟨0, rfl, Nat.zero_le _, Nat.le_refl _, rfl, fun j hj => by omega⟩
  case round =>
    obtain ⟨k, rfl, hk, hgk, hwr, HN⟩ := hrel
    subst hwr
    by_cases hp : k + 1 < s.size
    · have hp' : k < s.size := by omega
      have g1 := str_get s k hp'
      have g2 := str_get s (k + 1) hp
      have HG : Hid (s.data.toList[k]? = some s[k] ∧ s.data.toList[k + 1]? = some s[k + 1]) := ⟨g1, g2⟩
      clear g1 g2
      have hpi : (k : Int) + 1 < (s.size : Int) := by omega
      by_cases h13 : s[k].toNat = 13
      · by_cases h10 : s[k + 1].toNat = 10
        · have HF : Hid (cutL s.data.toList = s.data.toList.take k) := by
            show cutL s.data.toList = _
            unfold cutL
            rw [find_at HN.out (by rw [HG.out.1, (byte_is (by decide)).1 h13]; rfl) (by rw [HG.out.2, (byte_is (by decide)).1 h10]; rfl)]
          go_wp2
          go_ret
          exact ⟨by rw [HF.out, ← extract_list]; rfl, rfl⟩
        · have HN2 : Hid (NoEnd s.data.toList (k + 1)) := fun j hj e => by
            rcases Nat.lt_or_ge j k with h | h
            · exact HN.out j h e
            · obtain rfl : j = k := by omega
              rw [HG.out.2] at e
              exact h10 ((byte_is (by decide)).2 (Option.some.inj e.2))
          go_wp2
          go_roundg (s.size - (k + 1))
          case measure => omega
          case rel => exact ⟨k + 1, by go_num, by omega, Nat.le_refl _, rfl, HN2⟩
      · have HN2 : Hid (NoEnd s.data.toList (k + 1)) := fun j hj e => by
            rcases Nat.lt_or_ge j k with h | h
            · exact HN.out j h e
            · obtain rfl : j = k := by omega
              rw [HG.out.1] at e
              exact h13 ((byte_is (by decide)).2 (Option.some.inj e.1))
        go_wp2
        go_roundg (s.size - (k + 1))
        case measure => omega
        case rel => exact ⟨k + 1, by go_num, by omega, Nat.le_refl _, rfl, HN2⟩
    · have hpi : ¬ (k : Int) + 1 < (s.size : Int) := by omega
      have HF : Hid (cutL s.data.toList = s.data.toList) := by
        show cutL s.data.toList = _
        unfold cutL
        rw [find_no HN.out (by rw [HL.out]; omega)]
      go_wp2
      go_ret
      exact ⟨by rw [HF.out]; simp, rfl⟩
end Go.Proofs.Ytabpicbhhplcgaa
