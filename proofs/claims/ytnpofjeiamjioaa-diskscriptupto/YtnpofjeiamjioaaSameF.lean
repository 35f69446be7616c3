/-
  The walks of sameFiles, begins, where they answer true.
-/
import Derived.Test.YtnpofjeiamjioaaShown
import Derived.Test.YtnpofjeiamjioaaSameG
namespace Go.Proofs.Ytnpofjeiamjioaa
open Go.RowKit Go.Maps

theorem ByteRow.isAll {w : World} {t : TypeId} {g : Nat} {l : List UInt8} (h : ByteRow w t g l) (hb : l.length ≤ 140737488355328) : IsBytes w (some ⟨g, 0, none⟩) l.length l :=
  h.is 0 l.length l (fun j x hj => by rw [Nat.zero_add]; exact hj) (Nat.le_refl _) (by unfold maxLen; omega)
/-- A list of files that was handed out, as it is read. -/
theorem ListAt.raw {w : World} {lo : Nat} {v : Value} {P : List (Fl × Nat)} (h : ListAt w lo v P) (hf : ∀ p ∈ P, rawFits (raw p.1) ∧ p.1.data.length ≤ 140737488355328) : ∃ a c, v = .slice a P.length c ∧ IsRaw w a c (P.map fun p => raw p.1) := by
  obtain ⟨a, c, hv, hc1, hc2, hcell⟩ := h.cells
  refine ⟨a, c, hv, by simpa using hc2, hc1, fun x hx => ?_, ?_⟩
  · obtain ⟨p, hp, rfl⟩ := List.mem_map.1 hx
    exact (hf p hp).1
  · cases P with
    | nil => exact .inl rfl
    | cons p0 r =>
      obtain ⟨b, ha, hb, _⟩ := hcell 0 p0 rfl
      refine .inr ⟨b, 0, ha, hb, fun j x hj => ?_⟩
      rw [List.getElem?_map] at hj
      obtain ⟨p, hp, rfl⟩ := Option.map_eq_some_iff.1 hj
      obtain ⟨b', ha', _, k0, k1, k2, hrow⟩ := hcell j p hp
      rw [ha] at ha'
      simp only [Option.some.injEq, Addr.mk.injEq, and_true] at ha'
      subst ha'
      rw [Nat.zero_add]
      exact ⟨k0, ⟨_, _, k1, hrow.isAll (hf p (List.mem_of_getElem? hp)).2⟩, k2⟩
theorem raw_fits {q : Int} {L : List Fl} (h : Right q L) {f : Fl} (hf : f ∈ L) : rawFits (raw f) ∧ f.data.length ≤ 140737488355328 := by
  have h1 := h.ok f hf
  have h2 := len_le hf
  have h3 := h.fits
  have h4 := h.quota
  refine ⟨⟨WalkArith.wf_i64 ?_, WalkArith.wf_i64 ?_⟩, by omega⟩
  · show _ ≤ f.num ∧ f.num ≤ _
    omega
  · show _ ≤ (f.safe : Int) ∧ (f.safe : Int) ≤ _
    omega

end Go.Proofs.Ytnpofjeiamjioaa
