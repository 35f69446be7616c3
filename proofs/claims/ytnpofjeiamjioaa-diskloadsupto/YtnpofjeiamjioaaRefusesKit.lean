/-
  What DiskRefuses and DiskKeeps share.
-/
import Derived.Test.YtnpofjeiamjioaaSameF
import Derived.Test.YtnpofjeiamjioaaArX
namespace Go.Proofs.Ytnpofjeiamjioaa
open Go.RowKit Go.Maps

theorem listRaw {w : World} {lo : Nat} {v : Value} {P : List (Fl × Nat)} {q : Int} {L : List Fl} (h : ListAt w lo v P) (hP : P.map (·.1) = L) (hR : Right q L) : ∃ a c, v = .slice a L.length c ∧ IsRaw w a c (L.map raw) := by
  obtain ⟨a, c, hv, hr⟩ := ListAt.raw h (fun p hp => raw_fits hR (by rw [← hP]; exact List.mem_map_of_mem hp))
  refine ⟨a, c, by rw [← hP, List.length_map]; exact hv, ?_⟩
  rw [← hP, List.map_map]
  exact hr
/-- A list that was handed out in a world w0: it lies below that world's end. -/
theorem listKept {K : Nat → Prop} {w0 w w' : World} {lo : Nat} {v : Value} {P : List (Fl × Nat)} (h0 : ListAt w0 lo v P) (h : ListAt w lo v P) (hk : Kept K w w') (hK : ∀ k, lo ≤ k → k < w0.heap.size → ¬ K k) : ListAt w' lo v P := by
  refine ⟨⟨h.row.1, ?_⟩, fun p hp => ?_, h.apart⟩
  · rcases h.row.2 with hn | ⟨g, cap, cur, rfl, hB, hg, rest⟩
    · exact .inl hn
    · obtain ⟨cur0, hc0, hb0⟩ := h0.block (k := g) rfl
      exact .inr ⟨g, cap, cur, rfl, hB, (hk.block g (Array.getElem?_eq_some_iff.1 hg).1 (hK g hB (Array.getElem?_eq_some_iff.1 hc0).1)).trans hg, rest⟩
  · obtain ⟨h1, h2⟩ := h.data p hp
    exact ⟨(hk.block p.2 h1.lt (hK p.2 h2 (h0.data p hp).1.lt)).trans h1, h2⟩
theorem sameFilesL (a1 a2 : Option Addr) (c1 c2 : Nat) (L : List Fl) (w : World) (h1 : IsRaw w a1 c1 (L.map raw)) (h2 : IsRaw w a2 c2 (L.map raw)) :
    Calls Try.prog 28 #[.slice a1 L.length c1, .slice a2 L.length c2] w fun e w' => e = .returned (.bool true) ∧ ∃ n, w' = w.drewN n := by
  have := sameFiles_yes a1 a2 c1 c2 (L.map raw) w h1 h2
  rw [List.length_map] at this
  exact this
theorem within_of {n a b : Int} (h1 : a ≤ n) (h2 : n ≤ b) : withinB n a b = true := by simp [withinB, h1, h2]
theorem chkL_of : ∀ (L : List Fl) (la : Int), Rising L → (∀ f ∈ L, la < f.num ∧ f.num ≤ 1099511627776 ∧ f.safe ≤ f.data.length) → chkL la (L.map raw) = 0
  | [], _, _, _ => rfl
  | x :: r, la, hr, h => by
    have hx := h x List.mem_cons_self
    rw [List.map_cons, chkL]
    rw [if_pos (show withinB (raw x).num (la + 1) 1099511627776 = true from within_of (by show la + 1 ≤ x.num; omega) hx.2.1), if_pos (show withinB (raw x).safe 0 ((raw x).data.length : Int) = true from within_of (by show 0 ≤ (x.safe : Int); omega) (by show (x.safe : Int) ≤ (x.data.length : Int); omega))]
    exact chkL_of r x.num hr.tail (fun f hf => ⟨hr.head f hf, (h f (List.mem_cons_of_mem _ hf)).2⟩)
theorem totR_raw (L : List Fl) : totR (L.map raw) = total L := by
  simp only [total, totR, List.map_map]
  rfl
theorem chk_of {q : Int} {L : List Fl} (h : Right q L) : chk q (L.map raw) = 0 := by
  have h1 := chkL_of L 0 h.rise (fun f hf => by have := h.ok f hf; omega)
  have h2 := h.fits
  have h3 := h.quota
  rw [chk, if_pos (show withinB q 1024 67108864 = true from within_of h3.1 h3.2), if_pos h1, if_neg (by rw [totR_raw]; omega)]
theorem cook_map (L : List Fl) : (L.map raw).map cook = L := by
  rw [List.map_map]
  have : cook ∘ raw = id := funext fun f => cook_raw f
  rw [this, List.map_id]
theorem loadL (q : Int) (a : Option Addr) (c : Nat) (L : List Fl) (w : World) (hR : Right q L) (h : IsRaw w a c (L.map raw)) :
    Calls Try.prog 23 #[.int .i64 q, .slice a L.length c] w fun e w' => ∃ db mb vs, e = .returned (.tuple #[.pointer (some ⟨db, 0, none⟩), .int .i64 0]) ∧ DiskAt w' db mb q L vs ∧ (∀ k, Mine db mb L vs k → w.heap.size ≤ k) ∧ Below w.heap.size w w' := by
  have hl := load_any q a c (L.map raw) w h (by rw [totR_raw]; have := hR.fits; have := hR.quota; omega)
  rw [List.length_map] at hl
  refine hl.mono ?_
  rintro e w' ⟨B, h1⟩
  rcases h1 with ⟨h1, _⟩ | ⟨_, db, mb, vs, he, hd, hm⟩
  · exact absurd (chk_of hR) h1
  · rw [cook_map] at hd hm
    exact ⟨db, mb, vs, he, hd, hm, B⟩
theorem act_err {q : Int} {L : List Fl} {k n : Int} {d : List UInt8} {z : Int} (h : (act q L k n d z).1 ≠ 0) : (act q L k n d z).2 = L := by
  unfold act at h ⊢
  split
  · rename_i hk
    rw [if_pos hk] at h
    unfold actCreate at h ⊢
    split <;> (try split) <;> simp_all
  · rename_i hk
    rw [if_neg hk] at h
    split
    · rename_i hk
      rw [if_pos hk] at h
      unfold actAppend at h ⊢
      split <;> (try split) <;> simp_all
    · rename_i hk
      rw [if_neg hk] at h
      split
      · rename_i hk
        rw [if_pos hk] at h
        unfold actSync at h ⊢
        split <;> simp_all
      · rename_i hk
        rw [if_neg hk] at h
        split
        · rename_i hk
          rw [if_pos hk] at h
          unfold actCut at h ⊢
          split <;> (try split) <;> simp_all
        · rename_i hk
          rw [if_neg hk] at h
          split
          · rename_i hk
            rw [if_pos hk] at h
            unfold actRemove at h ⊢
            split <;> simp_all
          · rfl
end Go.Proofs.Ytnpofjeiamjioaa
