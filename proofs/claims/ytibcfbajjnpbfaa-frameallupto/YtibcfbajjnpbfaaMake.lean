/-
  The walk of Make.
-/
import Derived.Test.YtibcfbajjnpbfaaSum
import Derived.Test.YtibcfbajjnpbfaaClone
import Derived.Deep.RegionWith
import Derived.Deep.Cut
import Derived.Deep.CutRange
import Derived.Deep.OwnRows
namespace Go.Proofs.Ytibcfbajjnpbfaa
open Go.RowKit

/-- What Make answers: an error's number, and the bytes. -/
def makeE (f p : Int) (l : List UInt8) : Int := if wordB f = true ∧ wordB p = true then (if lenB l.length = true then 0 else 22) else 24
def makeL (f p : Int) (l : List UInt8) : List UInt8 := if makeE f p l = 0 then Crc.frame f.toNat p.toNat l else []

def MakePost (f p : Int) (l : List UInt8) (w : World) (e : Ending) (w' : World) : Prop :=
  ∃ v, e = .returned (.tuple #[v, .int .i64 (makeE f p l)]) ∧ Own w' w.heap.size v (makeL f p l) ∧ Below w.heap.size w w'

theorem copy_src {w : World} {a : Option Addr} {c : Nat} {l : List UInt8} (h : IsBytes w a c l) (hn : 1 ≤ (l.length : Int) ∧ (l.length : Int) ≤ 66000) : ∃ ad, a = some ad ∧ ∀ j v, (u8s l)[j]? = some v → w.cell? (ad.add j) = some v := by
  rcases h.src with ⟨_, h0⟩ | h
  · omega
  · exact h
theorem made_row (w : World) (n : Nat) : ByteRow (w.alloc (.cells (madeCells #[.int .u8 0] n) 5)) 5 w.heap.size (List.replicate n 0) := by
  refine (heap_alloc_last w _).trans ?_
  congr 2
  apply Array.ext'
  simp [madeCells, u8s, Nat.mod_one]
  apply List.ext_getElem
  · simp
  · intro i h1 h2; simp

theorem splice_mid (A R B : List UInt8) (n : Nat) (h : A.length = n) : splice (A ++ R) n B = A ++ (B ++ R.drop B.length) := by
  subst h
  simp [splice, List.drop_append]
theorem rows_eq (n : Nat) (A B : List UInt8) (h1 : A.length = 4) (h2 : B.length = 4) : splice (splice (List.replicate (8 + n) (0 : UInt8)) 0 A) 4 B = (A ++ B) ++ List.replicate n 0 := by
  have e0 := splice_mid [] (List.replicate (8 + n) (0 : UInt8)) A 0 rfl
  rw [List.nil_append, List.nil_append] at e0
  rw [e0, splice_mid A _ B 4 h1, h1, h2, List.drop_drop, List.drop_replicate, List.append_assoc]
  congr 3
  omega
theorem made_own {w : World} {g F P : Nat} {l : List UInt8} (h : w.heap[g]? = some (.cells (splice (u8s (splice (splice (List.replicate (8 + l.length) 0) 0 (Crc.le 4 l.length)) 4 (Crc.le 4 (Crc.fsum F P l)))) 8 (u8s l)).toArray 5 (0, 0))) (hl : l.length ≤ 66000) :
    Own w g (.slice (some ⟨g, 0, none⟩) (8 + l.length) (8 + l.length)) (Crc.frame (F : Int).toNat (P : Int).toNat l) := by
  have hlen : 8 + l.length = (Crc.frame F P l).length := by rw [Crc.frame_length]; omega
  have e : splice (splice (splice (List.replicate (8 + l.length) (0 : UInt8)) 0 (Crc.le 4 l.length)) 4 (Crc.le 4 (Crc.fsum F P l))) 8 l = Crc.frame F P l := by
    rw [rows_eq _ _ _ (Crc.le_length _ _) (Crc.le_length _ _), splice_mid _ _ _ 8 (by simp [Crc.le_length])]
    simp [Crc.frame]
  rw [u8s_splice, e] at h
  rw [Int.toNat_natCast, Int.toNat_natCast, hlen]
  refine ⟨by rw [u8s_length, Nat.mul_one], .inr ⟨g, _, _, rfl, Nat.le_refl _, h, Nat.le_refl _, by unfold maxLen; rw [Crc.frame_length]; omega, by simp [u8s_length], ?_⟩⟩
  rw [Nat.mul_one]
  simp [u8s_length, List.take_of_length_le]

set_option maxHeartbeats 1000000 in
set_option maxRecDepth 1000000 in
theorem make_any (f p : Int) (a : Option Addr) (c : Nat) (l : List UInt8) (w : World) (hl : IsBytes w a c l) :
    Calls Try.prog 15 #[.int .i64 f, .int .i64 p, .slice a l.length c] w (MakePost f p l w) := by
  have HL : Hid (IsBytes w a c l) := hl
  have hlm : l.length ≤ 9223372036854775807 := by have := hl.1; have := hl.2.1; unfold maxLen at *; omega
  clear hl
  cases hf : wordB f with
  | false =>
    have HF : Hid (wordB f = false) := hf
    clear hf
    go_enter Try.func15, Try.ntmps15
    go_wp2_with (go_at_call 29; refine (isWord_any f _).mono ?_; rintro e w1 ⟨rfl, hW⟩; have hW := hW.symm; subst hW; rw [HF.out])
    go_ret2
    have hE : makeE f p l = 24 := by simp [makeE, HF.out]
    exact ⟨_, by rw [hE]; rfl, by unfold makeL; rw [hE]; exact Own.nil _ _, Below.refl _ _⟩
  | true =>
    cases hp : wordB p with
    | false =>
      have HF : Hid (wordB f = true) := hf
      have HP : Hid (wordB p = false) := hp
      clear hf hp
      go_enter Try.func15, Try.ntmps15
      go_wp2_with (go_at_call 29; refine (isWord_any _ _).mono ?_; rintro e w1 ⟨rfl, hW⟩; have hW := hW.symm; subst hW; first | rw [HF.out] | rw [HP.out])
      go_ret2
      have hE : makeE f p l = 24 := by simp [makeE, HP.out]
      exact ⟨_, by rw [hE]; rfl, by unfold makeL; rw [hE]; exact Own.nil _ _, Below.refl _ _⟩
    | true =>
      cases hn : lenB l.length with
      | false =>
        have HF : Hid (wordB f = true) := hf
        have HP : Hid (wordB p = true) := hp
        have HN : Hid (lenB l.length = false) := hn
        clear hf hp hn
        go_enter Try.func15, Try.ntmps15
        go_wp2_with (first
          | (go_at_call 29; refine (isWord_any _ _).mono ?_; rintro e w1 ⟨rfl, hW⟩; have hW := hW.symm; subst hW; first | rw [HF.out] | rw [HP.out])
          | (go_at_call 30; refine (isLength_any _ _).mono ?_; rintro e w1 ⟨rfl, hW⟩; have hW := hW.symm; subst hW; rw [HN.out]))
        go_ret2
        have hE : makeE f p l = 22 := by simp [makeE, HF.out, HP.out, HN.out]
        exact ⟨_, by rw [hE]; rfl, by unfold makeL; rw [hE]; exact Own.nil _ _, Below.refl _ _⟩
      | true =>
        have hfb := wordB_yes hf
        have hpb := wordB_yes hp
        have hnb := lenB_yes hn
        have HF : Hid (wordB f = true) := hf
        have HP : Hid (wordB p = true) := hp
        have HN : Hid (lenB l.length = true) := hn
        clear hf hp hn
        obtain ⟨i8, hi, hz0, hz1, hz2⟩ := info_parts info_u8
        obtain ⟨F, rfl⟩ := Int.eq_ofNat_of_zero_le hfb.1
        obtain ⟨P, rfl⟩ := Int.eq_ofNat_of_zero_le hpb.1
        go_enter Try.func15, Try.ntmps15
        go_wp2_with (first
          | (go_at_call 29; refine (isWord_any _ _).mono ?_; rintro e w1 ⟨rfl, hW⟩; have hW := hW.symm; subst hW; first | rw [HF.out] | rw [HP.out])
          | (go_at_call 30; refine (isLength_any _ _).mono ?_; rintro e w1 ⟨rfl, hW⟩; have hW := hW.symm; subst hW; rw [HN.out])
          | (refine wpList_make_row _ rfl (.tmp 23) (.tmp 23) 22 rfl 5 i8 (.int .u8 0) Try.underlying22 hi hz0 hz1 rfl .i64 .i64 (8 + l.length) rfl rfl (by rw [hz2]; omega) (by omega) ?_))
        refine (write_any w.heap.size 0 4 4 l.length (List.replicate (8 + l.length) 0) _ (made_row w _) (by simp; omega) (by decide) (by omega)).mono ?_
        rintro e w1 ⟨rfl, row1, gr1, sz1⟩
        have B1 : Below w.heap.size w w1 := ((Below.refl _ w).alloc (Nat.le_refl _) _).trans (grown_below gr1 (Nat.le_refl _) (by simp))
        clear gr1
        have ROW1 : Hid (ByteRow w1 5 w.heap.size (splice (List.replicate (8 + l.length) 0) 0 (Crc.le 4 l.length))) := row1
        have HB1 : Hid (Below w.heap.size w w1) := B1
        clear row1 B1 sz1
        go_wp2_with fail
        go_region_with (first
          | (go_at_call 32
             refine (frameSum_any F P a c l _ (by omega) (by omega) (HL.out.below (by first | exact HB1.out.drew | exact HB1.out.drew.drew | exact HB1.out))).mono ?_
             rintro e w2 ⟨rfl, B2⟩
             have ROW2 : Hid (ByteRow w2 5 w.heap.size (splice (List.replicate (8 + l.length) 0) 0 (Crc.le 4 l.length))) := by first | exact ROW1.out.drew.below B2 ROW1.out.drew.lt | exact ROW1.out.below B2 ROW1.out.lt
             have HB2 : Hid (Below w.heap.size w w2) := HB1.out.drew.trans (B2.mono HB1.out.drew.size))
          | (go_at_call 31
             go_must (refine (write_any w.heap.size 4 4 4 (Crc.fsum F P l) _ _ (by first | exact ROW2.out | exact ROW2.out.drew | exact ROW2.out.drew.drew) (by rw [length_splice _ _ _ (by simp [Crc.le_length]; omega)]; simp only [List.length_replicate]; omega) (by decide) (by have := Crc.fsum_lt F P l; omega)).mono ?_)
             rintro e w3 ⟨rfl, row3, gr3, sz3⟩
             have ROW3 : Hid (ByteRow w3 5 w.heap.size (splice (splice (List.replicate (8 + l.length) 0) 0 (Crc.le 4 l.length)) 4 (Crc.le 4 (Crc.fsum F P l)))) := row3
             have HB3 : Hid (Below w.heap.size w w3) := by first | exact HB2.out.trans (grown_below gr3 (Nat.le_refl _) HB2.out.size) | exact HB2.out.drew.trans (grown_below gr3 (Nat.le_refl _) HB2.out.size)
             clear row3 gr3 sz3))
        all_goals
          go_wp2_with (refine wpList_copy_splice rfl (.tmp 38) (.tmp 39) 22 22 rfl 5 Try.underlying22 (by kernel_rfl) _ _ _ _ _ _ rfl rfl w.heap.size 8 _ 5 ROW3.out (u8s l) (by rw [u8s_length]; simp [Nat.min_def]) (fun _ => ⟨rfl, copy_src (HL.out.below HB3.out) hnb⟩) (by rw [u8s_length, u8s_length, rows_eq _ _ _ (Crc.le_length _ _) (Crc.le_length _ _)]; simp [Crc.le_length]; omega) (u8s_one l) w.heap.size w HB3.out (Nat.le_refl _) ?_; intro w4 HG4 hB4)
          go_ret2
          have hE : makeE F P l = 0 := by simp [makeE, HF.out, HP.out, HN.out]
          refine ⟨_, by rw [hE]; rfl, ?_, hB4⟩
          unfold makeL
          rw [if_pos hE]
          exact made_own HG4.out (by omega)
end Go.Proofs.Ytibcfbajjnpbfaa
