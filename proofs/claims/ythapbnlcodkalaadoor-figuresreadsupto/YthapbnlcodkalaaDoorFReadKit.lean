/-
  Layer 13: what a dictionary says is what was laid into it.
-/
import Derived.Test.YthapbnlcodkalaaDoorValueW
import Derived.Test.YthapbnlcodkalaaDoorShopKit
namespace Go.Proofs.YthapbnlcodkalaaDoor
open Go.RowKit

theorem okF_nodup : ∀ (l done : List Pr), okF done l → (l.map Prod.fst).Nodup ∧ ∀ p ∈ l, p.1 ∉ done.map Prod.fst
  | [], _, _ => ⟨by simp, fun p hp => by cases hp⟩
  | p :: r, done, h => by
    obtain ⟨h1, h2⟩ := h
    obtain ⟨ih1, ih2⟩ := okF_nodup r (done ++ [p]) h2
    have hp : p.1 ∉ done.map Prod.fst := fun hm => by
      unfold checkE at h1
      rw [if_pos (.inr hm)] at h1
      cases h1
    refine ⟨?_, fun q hq => ?_⟩
    · rw [List.map_cons, List.nodup_cons]
      refine ⟨fun hm => ?_, ih1⟩
      obtain ⟨q, hq, e⟩ := List.mem_map.1 hm
      exact ih2 q hq (by simp [e])
    · rcases List.mem_cons.1 hq with rfl | hq
      · exact hp
      · intro hm
        exact ih2 q hq (by rw [List.map_append]; exact List.mem_append_left _ hm)
theorem ok_of {ps : List BP} (h : dictE (ps.map un) = 0) : okF [] (ps.map un) ∧ ps.length ≤ 256 := by
  unfold dictE at h
  split at h
  · cases h
  · rename_i hl
    exact ⟨(goE_ok _ _).1 h, by simpa using hl⟩
theorem key_iff {ps : List BP} (h : okF [] (ps.map un)) {q : Nat} {key x : ByteArray} (hq : ps[q]? = some (key, x)) : ∀ (j : Nat) p, ps[j]? = some p → (p.1 = key ↔ j = q) := by
  intro j p hj
  refine ⟨fun e => ?_, fun e => ?_⟩
  · have hn := (okF_nodup _ _ h).1
    rw [List.map_map] at hn
    have hlt : j < (ps.map (Prod.fst ∘ un)).length := by rw [List.length_map]; exact (List.getElem?_eq_some_iff.1 hj).1
    refine (List.getElem?_inj hlt hn).1 ?_
    rw [List.getElem?_map, List.getElem?_map, hj, hq]
    simp [un, e]
  · rw [e, hq] at hj
    have := Option.some.inj hj
    rw [← this]
theorem num_of {ps : List BP} (h : okF [] (ps.map un)) {q : Nat} {key : ByteArray} {n : Int} (hn : I64 n) (hq : ps[q]? = some (key, prS n)) :
    ∀ p, ps[q]? = some p → p.2.size ≤ 5000 ∧ parseV p.2.data.toList 9223372036854775807 = n ∧ parseB p.2.data.toList 9223372036854775807 = true := by
  intro p hp
  rw [hq] at hp
  have e := (Option.some.inj hp).symm
  subst e
  have hm : un (key, prS n) ∈ ps.map un := List.mem_map_of_mem (List.mem_of_getElem? hq)
  have ht := (okF_all _ _ h _ hm).2
  have hd : (prS n).data.toList = printL n := rfl
  have hl : 1 ≤ (printL n).length := by
    unfold textB un at ht
    simp only [hd, Bool.and_eq_true, decide_eq_true_eq] at ht
    exact ht.1.1
  have hn0 : 0 ≤ n := by
    rcases Int.lt_or_le n 0 with h0 | h0
    · unfold printL at hl
      rw [if_pos h0] at hl
      simp at hl
    · exact h0
  obtain ⟨u, rfl⟩ : ∃ u : Nat, n = u := ⟨n.toNat, by omega⟩
  have hp : printL (u : Int) = Lib.decDigits u := by
    unfold printL Lib.itoa
    rw [if_neg (by omega), if_neg (by omega), Int.toNat_natCast]
  have hs := prS_len _ hn
  have hpz := parsed 9223372036854775807 0 u
  rw [List.replicate_zero, List.nil_append, if_pos hn.2] at hpz
  refine ⟨by simp only []; omega, ?_, ?_⟩
  · rw [hd, hp]; exact hpz.1
  · rw [hd, hp, hpz.2]; exact decide_eq_true hn.2
/-- What ReadDict tells of a dictionary that was told. -/
theorem readDictW (ps : List BP) (a : Option Addr) (c n : Nat) (D : List UInt8) (w : World) (h : IsBytes w a c D) (hn : n = D.length) (hD : D = if dictE (ps.map un) = 0 then dictL (ps.map un) else []) (h0 : n ≠ 0) (hb : D.length ≤ 1073741823) :
    Calls Tryd.prog 16 #[.slice a n c] w fun e w' => ∃ a2 c2, e = .returned (.tuple #[.slice a2 ps.length c2, .int .i64 0]) ∧ Prs w' w.heap.size (.slice a2 ps.length c2) ps ∧ Below w.heap.size w w' := by
  have hE : dictE (ps.map un) = 0 := by
    rcases Decidable.em (dictE (ps.map un) = 0) with e | e
    · exact e
    · rw [if_neg e] at hD
      rw [hD] at hn
      exact absurd hn h0
  rw [if_pos hE] at hD
  obtain ⟨hok, hl⟩ := ok_of hE
  subst hn
  refine (refReadDict_any a c D w h hb).mono ?_
  rintro e w' ⟨v, er, ts, rfl, hr, hp, hbw⟩
  obtain ⟨rfl, rfl⟩ := readD_one hr hl hok hD
  obtain ⟨a2, c2, rfl, _⟩ := hp.is (by omega)
  exact ⟨a2, c2, rfl, hp, hbw⟩
theorem ok_dict {ps : List BP} {D : List UInt8} (hD : D = if dictE (ps.map un) = 0 then dictL (ps.map un) else []) (h0 : D.length ≠ 0) : okF [] (ps.map un) ∧ ps.length ≤ 256 := by
  refine ok_of ?_
  rcases Decidable.em (dictE (ps.map un) = 0) with e | e
  · exact e
  · rw [if_neg e] at hD
    rw [hD] at h0
    exact absurd rfl h0
theorem isW {ps : List BP} (hok : okF [] (ps.map un) ∧ ps.length ≤ 256) (q : Nat) (key : ByteArray) (n : Int) (hn : I64 n) (hq : ps[q]? = some (key, prS n)) (a : Option Addr) (c B : Nat) (W : World) (hp : Prs W B (.slice a ps.length c) ps) :
    Calls Tryd.prog 17 #[.slice a ps.length c, .string key, .int .i64 n] W fun e w' => e = .returned (.bool true) ∧ w' = W := by
  have hlt := (List.getElem?_eq_some_iff.1 hq).1
  obtain ⟨a2, c2, e, ip⟩ := hp.is (by have := hok.2; omega)
  simp only [Value.slice.injEq] at e
  obtain ⟨rfl, _, rfl⟩ := e
  exact is_any a c ps key q n W ip ⟨by omega, hok.2⟩ (key_iff hok.1 hq) hlt (num_of hok.1 hn hq)
theorem valueW {ps : List BP} (hok : okF [] (ps.map un) ∧ ps.length ≤ 256) (q : Nat) (key : ByteArray) (n : Int) (hn : I64 n) (hq : ps[q]? = some (key, prS n)) (a : Option Addr) (c B : Nat) (W : World) (hp : Prs W B (.slice a ps.length c) ps) :
    Calls Tryd.prog 18 #[.slice a ps.length c, .string key] W fun e w' => e = .returned (.tuple #[.int .i64 n, .bool true]) ∧ w' = W := by
  have hlt := (List.getElem?_eq_some_iff.1 hq).1
  obtain ⟨a2, c2, e, ip⟩ := hp.is (by have := hok.2; omega)
  simp only [Value.slice.injEq] at e
  obtain ⟨rfl, _, rfl⟩ := e
  have := value_any a c ps key q n true W ip ⟨by omega, hok.2⟩ (key_iff hok.1 hq) (num_of hok.1 hn hq)
  rw [if_pos hlt, if_pos hlt] at this
  exact this
theorem noneW {ps : List BP} (hok : okF [] (ps.map un) ∧ ps.length ≤ 256) (key : ByteArray) (h0 : 0 < ps.length) (hk : ∀ p ∈ ps, p.1 ≠ key) (a : Option Addr) (c B : Nat) (W : World) (hp : Prs W B (.slice a ps.length c) ps) :
    Calls Tryd.prog 18 #[.slice a ps.length c, .string key] W fun e w' => e = .returned (.tuple #[.int .i64 0, .bool false]) ∧ w' = W := by
  obtain ⟨a2, c2, e, ip⟩ := hp.is (by have := hok.2; omega)
  simp only [Value.slice.injEq] at e
  obtain ⟨rfl, _, rfl⟩ := e
  have := value_any a c ps key ps.length 0 false W ip ⟨h0, hok.2⟩ (fun j p hj => ⟨fun e => absurd e (hk p (List.mem_of_getElem? hj)), fun e => by have := (List.getElem?_eq_some_iff.1 hj).1; omega⟩) (fun p hp => by have := (List.getElem?_eq_some_iff.1 hp).1; omega)
  rw [if_neg (Nat.lt_irrefl _), if_neg (Nat.lt_irrefl _)] at this
  exact this
/-- A pair's cells. -/
theorem Prs.pair {W : World} {B : Nat} {a : Option Addr} {n c : Nat} {ps : List BP} (h : Prs W B (.slice a n c) ps) (hn : 0 < ps.length) (hl : ps.length ≤ 256) : ∃ g, a = some ⟨g, 0, none⟩ ∧ g < W.heap.size ∧ ∀ (j : Nat) p, ps[j]? = some p → W.cell? ⟨g, j * 2, none⟩ = some (.string p.1) ∧ W.cell? ⟨g, j * 2 + 1, none⟩ = some (.string p.2) := by
  have h' := h
  rcases h.2 with ⟨e, h0⟩ | ⟨g, cap, cur, e, _, hg, _⟩
  · omega
  · simp only [Value.slice.injEq] at e
    obtain ⟨rfl, _, rfl⟩ := e
    have hcell := h'.cells (g := g) rfl
    refine ⟨g, rfl, (Array.getElem?_eq_some_iff.1 hg).1, fun j p hj => ?_⟩
    obtain ⟨t1, t2⟩ := twos_get ps j p hj
    have a1 := hcell _ _ t1
    have a2 := hcell _ _ t2
    rw [Go.WideShapes.add_plain, Nat.zero_add] at a1 a2
    exact ⟨a1, a2⟩
end Go.Proofs.YthapbnlcodkalaaDoor
