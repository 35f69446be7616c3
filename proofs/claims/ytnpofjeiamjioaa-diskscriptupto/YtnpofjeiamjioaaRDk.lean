/-
  RDsk, KeepsG, RFil.
-/
import Derived.Test.YtnpofjeiamjioaaKit
import Derived.Test.YtnpofjeiamjioaaPlainDisk
import Derived.BigQuiet
import Derived.Deep.QuietTactic
import Derived.Deep.LoopGhost
import Derived.Deep.Cut
import Derived.Test.YtnpofjeiamjioaaMem
import Derived.Test.YtnpofjeiamjioaaAppend
import Derived.Deep.RegionLaw
namespace Go.Proofs.Ytnpofjeiamjioaa
open Go.RowKit

structure HidR (p : Prop) : Prop where
  out : p
theorem hideR {p : Prop} (h : p) : HidR p := ⟨h⟩
/-- A file of the document's disk in memory. -/
def cellR (p : Fl × Value) : List Value := [.int .i64 p.1.num, p.2, .int .i64 (p.1.safe : Int)]
def flatR (L : List (Fl × Value)) : List Value := L.flatMap cellR
theorem flatR_length (L : List (Fl × Value)) : (flatR L).length = L.length * 3 := by
  induction L with
  | nil => rfl
  | cons a L ih =>
    show (cellR a ++ flatR L).length = _
    rw [List.length_append, ih]
    simp [cellR]
    omega
theorem flatR_append (a b : List (Fl × Value)) : flatR (a ++ b) = flatR a ++ flatR b := by simp [flatR]
theorem flatR_at (L : List (Fl × Value)) (i : Nat) (x : Fl × Value) (hx : L[i]? = some x) (k : Nat) (hk : k < 3) (v : Value) (hv : (cellR x)[k]? = some v) : (flatR L)[i * 3 + k]? = some v := by
  induction L generalizing i with
  | nil => simp at hx
  | cons a L ih =>
    have hla : (cellR a).length = 3 := rfl
    show (cellR a ++ flatR L)[i * 3 + k]? = some v
    cases i with
    | zero =>
      simp only [List.getElem?_cons_zero, Option.some.injEq] at hx
      subst hx
      rw [Nat.zero_mul, Nat.zero_add, List.getElem?_append_left (by omega)]
      exact hv
    | succ i =>
      rw [List.getElem?_append_right (by omega), hla, show (i + 1) * 3 + k - 3 = i * 3 + k by omega]
      exact ih i (by simpa using hx)
/-- The document's disk in memory. -/
structure RfAt (w : World) (B rb : Nat) (q : Int) (fv : Value) (F : List (Fl × Value)) : Prop where
  box : w.heap[rb]? = some (.cells #[.int .i64 q, fv] 66 (0, 0))
  row : w.ownsRow B 62 3 fv F.length (flatR F)
  own : ∀ p ∈ F, Own w B p.2 p.1.data
section
variable {w w' : World} {B rb : Nat} {q : Int} {fv : Value} {F : List (Fl × Value)}
theorem RfAt.form (h : RfAt w B rb q fv F) : ∃ a c, fv = .slice a F.length c := by
  rcases h.row.2 with ⟨rfl, h0⟩ | ⟨g, cap, cur, rfl, _⟩
  · exact ⟨none, 0, by rw [h0]⟩
  · exact ⟨_, _, rfl⟩
theorem RfAt.cells (h : RfAt w B rb q fv F) : w.cell? ⟨rb, 0, none⟩ = some (.int .i64 q) ∧ w.cell? ⟨rb, 1, none⟩ = some fv ∧ ∀ i, w.frozen? ⟨rb, i, none⟩ = false := by
  simp [World.cell?, World.frozen?, h.box]
theorem RfAt.at (h : RfAt w B rb q fv F) {i : Nat} {x : Fl × Value} (hx : F[i]? = some x) : ∃ g c, fv = .slice (some ⟨g, 0, none⟩) F.length c ∧ w.cell? ⟨g, i * 3, none⟩ = some (.int .i64 x.1.num) ∧ w.cell? ⟨g, i * 3 + 1, none⟩ = some x.2 ∧ w.cell? ⟨g, i * 3 + 2, none⟩ = some (.int .i64 (x.1.safe : Int)) ∧ ∀ j, w.frozen? ⟨g, j, none⟩ = false := by
  have hl : 0 < F.length := by have := (List.getElem?_eq_some_iff.1 hx).1; omega
  rcases h.row.2 with ⟨_, h0⟩ | ⟨g, c, cur, rfl, _, hg, _⟩
  · omega
  · have hc : ∀ k v, k < 3 → (cellR x)[k]? = some v → w.cell? ⟨g, i * 3 + k, none⟩ = some v := fun k v hk hv => by
      have := h.row.cells (g := g) rfl (i * 3 + k) v (flatR_at F i x hx k hk v hv)
      generalize i * 3 + k = n at this ⊢
      cases n with
      | zero => simpa [Addr.add] using this
      | succ n => simpa [Addr.add] using this
    exact ⟨g, c, rfl, hc 0 _ (by omega) rfl, hc 1 _ (by omega) rfl, hc 2 _ (by omega) rfl, fun j => by simp [World.frozen?, hg]⟩
theorem row_keptR {P : Nat → Prop} {e sz m : Nat} {v : Value} {xs : List Value} (h : w.ownsRow B e sz v m xs) (hk : Kept P w w') (hP : ∀ g, v.ownBlock = some g → ¬ P g) : w'.ownsRow B e sz v m xs := by
  refine ⟨h.1, ?_⟩
  rcases h.2 with h0 | ⟨g, cap, cur, e, hB, hgg, rest⟩
  · exact .inl h0
  · exact .inr ⟨g, cap, cur, e, hB, (hk.block g (Array.getElem?_eq_some_iff.1 hgg).1 (fun e2 => hP g (by rw [e]; rfl) e2)).trans hgg, rest⟩
theorem RfAt.later (h : RfAt w B rb q fv F) (hb : Below w.heap.size w w') : RfAt w' B rb q fv F :=
  ⟨(hb.block _ (Array.getElem?_eq_some_iff.1 h.box).1).trans h.box, row_keptR (P := fun _ => False) h.row (Kept.ofBelow hb) (fun _ _ h => h), fun p hp => (h.own p hp).below hb⟩
end
/-- Where a file stands, or would. -/
def plP : List Fl → Int → Nat × Bool
  | [], _ => (0, false)
  | f :: r, n => if n ≤ f.num then (0, f.num == n) else ((plP r n).1 + 1, (plP r n).2)
theorem plP_skip : ∀ (L : List Fl) (n : Int) (i : Nat), (∀ (j : Nat) f, j < i → L[j]? = some f → f.num < n) → i ≤ L.length → plP L n = (i + (plP (L.drop i) n).1, (plP (L.drop i) n).2)
  | L, n, 0, _, _ => by simp
  | [], n, i + 1, _, h => by simp at h
  | f :: r, n, i + 1, hf, h => by
    have h0 := hf 0 f (by omega) rfl
    have ih := plP_skip r n i (fun j g hj hg => hf (j + 1) g (by omega) (by simpa using hg)) (by simpa using h)
    rw [plP, if_neg (by omega), ih, List.drop_succ_cons]
    simp
    omega
theorem own_any11 (w : World) (a : Option Addr) (c : Nat) (d : List UInt8) (h : IsBytes w a c d) (hd : d.length ≤ 140737488355328) :
    Calls Try.prog 55 #[.slice a d.length c] w fun e w' => Below w.heap.size w w' ∧ ∃ v, e = .returned v ∧ Own w' w.heap.size v d := by
  have ba : Below w.heap.size w (w.alloc (.cells #[] 5)) := (Below.refl _ w).alloc (Nat.le_refl _) _
  have O1 : Own (w.alloc (.cells #[] 5)) w.heap.size (.slice (some ⟨w.heap.size, 0, none⟩) 0 0) [] := World.ownsRow_made w #[] 0 (Nat.le_refl _) (by unfold maxLen; omega) (by simp)
  have HB := hideR ba
  have HO := hideR O1
  have HI := hideR (h.below ba)
  clear ba O1 h
  go_enter Try.func55, Try.ntmps55
  go_wp2_with (at_builtin
               refine wpList_append8 rfl (.tmp 3) (.tmp 4) rfl w.heap.size (.slice (some ⟨w.heap.size, 0, none⟩) 0 0) [] rfl HO.out a c d rfl HI.out (by simpa using hd) (by rw [World.size_alloc]; omega) ?_
               intro v1 w1 ho hg _ _ _
               have HR : HidR (Below w.heap.size w w1 ∧ Own w1 w.heap.size v1 d) := ⟨HB.out.trans ((Kept.ofGrown (P := fun g => g = w.heap.size) hg (fun g e => by simp [Value.ownBlock] at e; exact e.symm)).below (by rw [World.size_alloc]; omega) (fun k hk e => by omega)), by simpa using ho⟩
               clear ho hg)
  refine bodyPost_ret (results_tmp rfl _ _ _) rfl ?_
  exact ⟨HR.out.1, _, rfl, HR.out.2⟩
set_option maxHeartbeats 2000000 in
set_option maxRecDepth 1000000 in
theorem place_any11 (w : World) (B rb : Nat) (q : Int) (fv : Value) (F : List (Fl × Value)) (h : RfAt w B rb q fv F) (n : Int) (hF : F.length ≤ 1073741823) :
    Calls Try.prog 57 #[.pointer (some ⟨rb, 0, none⟩), .int .i64 n] w fun e w' => e = .returned (.tuple #[.int .i64 ((plP (F.map (·.1)) n).1 : Int), .bool (plP (F.map (·.1)) n).2]) ∧ Below w.heap.size w w' := by
  obtain ⟨fa, fc, rfl⟩ := h.form
  have HR := hideR h
  have k1 := h.cells.2.1
  obtain ⟨N, hN⟩ : ∃ N, N = F.length := ⟨_, rfl⟩
  have HN := hideR hN
  rw [← hN] at HR k1 hF
  clear h hN
  go_enter Try.func57, Try.ntmps57
  go_wp2_with fail
  go_loopg [6] N (fun gk i wr => ∃ j : Nat, i = .int .i64 (j : Int) ∧ N - j ≤ gk ∧ j ≤ N ∧ wr = w ∧ HidR (∀ (m : Nat) f, m < j → (F.map (·.1))[m]? = some f → f.num < n))
  case atStart => exact ⟨0, rfl, by omega, by omega, rfl, ⟨fun m f hm => by omega⟩⟩
  case round =>
    obtain ⟨j, rfl, hgk, hj, hwr, HA⟩ := hrel
    subst hwr
    by_cases hlt : j < N
    · have tlt : (j : Int) < (N : Int) := by omega
      obtain ⟨x, hx⟩ : ∃ x, F[j]? = some x := ⟨_, List.getElem?_eq_getElem (by have := HN.out; omega)⟩
      obtain ⟨g, c, ee, m0, _, _, _⟩ := HR.out.at hx
      simp only [Value.slice.injEq] at ee
      obtain ⟨rfl, q1, rfl⟩ := ee
      have HD : HidR ((F.map (·.1)).drop j = x.1 :: (F.map (·.1)).drop (j + 1)) := ⟨by
        rw [List.drop_eq_getElem_cons (by simp; have := HN.out; omega)]
        congr 1
        have := (List.getElem?_eq_some_iff.1 hx).2
        simp [this]⟩
      have HX := hideR hx
      clear hx q1
      by_cases hge : n ≤ x.1.num
      · have HP : HidR (plP (F.map (·.1)) n = (j, x.1.num == n)) := ⟨by
          rw [plP_skip (F.map (·.1)) n j HA.out (by simp; have := HN.out; omega), HD.out, plP, if_pos hge]
          simp⟩
        go_wp2_with fail
        go_quiet (fail)
        go_wp2_with fail
        go_ret2
        exact ⟨by rw [HP.out]; rfl, ⟨rfl, rfl, rfl, Nat.le_refl _, fun _ _ => rfl⟩⟩
      · go_wp2_with fail
        go_roundg (N - (j + 1))
        case measure => omega
        case rel =>
          refine ⟨j + 1, by go_num, Nat.le_refl _, hlt, rfl, ⟨fun m f hm hf => ?_⟩⟩
          by_cases hmj : m = j
          · subst hmj
            rw [List.getElem?_map, HX.out] at hf
            simp at hf
            subst hf
            omega
          · exact HA.out m f (by omega) hf
    · have tlt : ¬ (j : Int) < (N : Int) := by omega
      have HP : HidR (plP (F.map (·.1)) n = (N, false)) := ⟨by
        have hjN : j = (F.map (·.1)).length := by simp; have := HN.out; omega
        rw [plP_skip (F.map (·.1)) n j HA.out (by omega), hjN, List.drop_length]
        simp [plP]
        exact HN.out.symm⟩
      go_wp2_with fail
      go_ret2
      exact ⟨by rw [HP.out]; rfl, Below.refl _ _⟩
theorem total_takeR (L : List Fl) (j : Nat) {f : Fl} (h : L[j]? = some f) : total (L.take (j + 1)) = total (L.take j) + f.data.length := by
  unfold total
  rw [List.take_add_one, h]
  simp
set_option maxHeartbeats 2000000 in
set_option maxRecDepth 1000000 in
theorem used_any11 (w : World) (B rb : Nat) (q : Int) (fv : Value) (F : List (Fl × Value)) (h : RfAt w B rb q fv F) (hF : F.length ≤ 1073741823) (hT : total (F.map (·.1)) ≤ 1073741823) :
    Calls Try.prog 29 #[.pointer (some ⟨rb, 0, none⟩)] w fun e w' => e = .returned (.int .i64 (total (F.map (·.1)) : Int)) ∧ w' = w := by
  obtain ⟨fa, fc, rfl⟩ := h.form
  have HR := hideR h
  have k1 := h.cells.2.1
  obtain ⟨N, hN⟩ : ∃ N, N = F.length := ⟨_, rfl⟩
  have HN := hideR hN
  rw [← hN] at HR k1 hF
  have HM : HidR (∀ j, total ((F.map (·.1)).take j) ≤ total (F.map (·.1))) := ⟨fun j => by
    unfold total
    conv => rhs; rw [← List.take_append_drop j (F.map (·.1))]
    rw [List.map_append, List.sum_append]
    omega⟩
  clear h hN
  go_enter Try.func29, Try.ntmps29
  go_wp2_with fail
  go_loopg [3, 4] N (fun gk s3 i wr => ∃ (j t : Nat), s3 = .int .i64 (t : Int) ∧ i = .int .i64 (j : Int) ∧ N - j ≤ gk ∧ j ≤ N ∧ wr = w ∧ HidR (t = total ((F.map (·.1)).take j)))
  case atStart => exact ⟨0, 0, rfl, rfl, by omega, by omega, rfl, ⟨rfl⟩⟩
  case round =>
    obtain ⟨j, t, rfl, rfl, hgk, hj, hwr, HA⟩ := hrel
    subst hwr
    by_cases hlt : j < N
    · have tlt : (j : Int) < (N : Int) := by omega
      obtain ⟨x, hx⟩ : ∃ x, F[j]? = some x := ⟨_, List.getElem?_eq_getElem (by have := HN.out; omega)⟩
      obtain ⟨g, c, ee, _, m1, _, _⟩ := HR.out.at hx
      simp only [Value.slice.injEq] at ee
      obtain ⟨rfl, q1, rfl⟩ := ee
      obtain ⟨da, dc, ed, _⟩ := (HR.out.own x (List.mem_of_getElem? hx)).shape
      rw [ed] at m1
      have ht1 : t + x.1.data.length = total ((F.map (·.1)).take (j + 1)) := by rw [total_takeR _ _ (by rw [List.getElem?_map, hx]; rfl), HA.out]
      have hb1 := HM.out (j + 1)
      have HT1 := hideR ht1
      have hb : t + x.1.data.length ≤ 1073741823 := by omega
      clear hx q1 ed ht1 hb1
      go_wp2_with fail
      go_roundg (N - (j + 1))
      case measure => omega
      case rel => exact ⟨j + 1, t + x.1.data.length, by go_num, by go_num, Nat.le_refl _, hlt, rfl, HT1⟩
    · have tlt : ¬ (j : Int) < (N : Int) := by omega
      have HP : HidR (total (F.map (·.1)) = t) := ⟨by rw [HA.out, List.take_of_length_le (by simp; have := HN.out; omega)]⟩
      go_wp2_with fail
      go_ret
      exact ⟨by rw [HP.out]; rfl, rfl⟩
end Go.Proofs.Ytnpofjeiamjioaa

namespace Go.Proofs.Ytnpofjeiamjioaa
open Go.RowKit

theorem run_append_keepsG {P : Program} (w : World) (size : Nat) (base : Nat) (t ty e : TypeId) (i : TypeInfo) (z : Value) (ht : P.underlying t = some (.slice e)) (hi : P.info? e = some i) (hz : i.zero = some z)
    (hsize : i.size = size) (hzs : z.cells.size = size) (v : Value) (n : Nat) (xs : List Value) (hown : w.ownsRow base e size v n xs)
    (a : Option Addr) (m c : Nat) (news : List Value) (hl : news.length = m * size) (hnews : (a = none ∧ m = 0) ∨ ∃ ad, a = some ad ∧ ∀ j u, news[j]? = some u → w.cell? (ad.add j) = some u) (h1 : ∀ u ∈ news, u.oneCell' = true)
    (h63 : n + m ≤ maxLen) (hbytes : (n + m) * i.bytes ≤ 140737488355328) (hbase : base ≤ w.heap.size) :
    ∃ v' w', (Builtin.append_ #[t, t] ty #[v, .slice a m c]).run P w = .ok v' w' ∧ w'.ownsRow base e size v' (n + m) (xs ++ news) ∧ w.grownBy w' v.ownBlock ∧ (∀ (b0 : Nat) (u : Value) (m' : Nat) (ys : List Value), w.ownsRow b0 e size u m' ys → (u.ownBlock = v.ownBlock → m' ≤ n) → w'.ownsRow b0 e size u m' ys) ∧
      (v'.ownBlock = v.ownBlock ∨ v'.ownBlock = some w.heap.size) ∧ (v' = .slice none 0 0 ↔ v = .slice none 0 0 ∧ m = 0) := by
  have hsmall : n + m ≤ 9223372036854775807 := by simp only [maxLen] at h63; omega
  rcases hnews with ⟨rfl, rfl⟩ | ⟨ad, rfl, hnews⟩
  · obtain rfl : news = [] := List.eq_nil_of_length_eq_zero (by rw [hl]; simp)
    refine ⟨v, w, ?_, by simpa using hown, ⟨rfl, rfl, rfl, Nat.le_refl _, fun _ _ _ => rfl⟩, fun _ _ _ _ h _ => h, .inl rfl, by simp⟩
    rcases hown.2 with ⟨rfl, rfl⟩ | ⟨g, cap, cur, rfl, hbg, hg, hnc, hcm, hcs, htake⟩
    · simp [Builtin.append_, run_underlying ht, sizeOf, typeInfo, hi, Builtin.lenOf, Builtin.firstCells]
    · have hr := run_append_room_src (P := P) w t t ty e i ht hi g 0 n cap (.slice none 0 c) 0 [] (Src.ofNil w ht c) (by omega) (by simp) (by simp)
      simpa [World.setCells] using hr
  · have hlen : (xs ++ news).length = (n + m) * size := by rw [List.length_append, hown.1, hl, Nat.add_mul]
    have grown : ∀ (old : Nat), old < n + m → ∀ (row : Option Nat),
        (w.drew.alloc (.cells (xs.toArray ++ news.toArray ++ Builtin.zeroCells z.cells (grownCap w (n + m) old e - (n + m))) e)).ownsRow base e size
          (.slice (some ⟨w.heap.size, 0, none⟩) (n + m) (grownCap w (n + m) old e)) (n + m) (xs ++ news) ∧
        w.grownBy (w.drew.alloc (.cells (xs.toArray ++ news.toArray ++ Builtin.zeroCells z.cells (grownCap w (n + m) old e - (n + m))) e)) row := by
      intro old ho row
      have hge := grownCap_ge w (n + m) old e
      have hcm : grownCap w (n + m) old e ≤ maxLen := grownCap_le_maxLen w (n + m) old e h63
      refine ⟨⟨hlen, .inr ⟨w.heap.size, _, _, rfl, hbase, heap_alloc_new w.drew _, hge, hcm, ?_, ?_⟩⟩, ⟨rfl, rfl, rfl, by simp, fun k hk _ => heap_alloc_old w.drew _ hk⟩⟩
      · simp only [Array.size_append, List.size_toArray, size_zeroCells, hzs, hown.1, hl]
        rw [← Nat.add_mul, ← Nat.add_mul]
        congr 1
        omega
      · simp only [Array.toList_append, List.append_assoc]
        rw [← List.append_assoc, ← hlen]
        exact List.take_left
    rcases hown.2 with ⟨rfl, rfl⟩ | ⟨g, cap, cur, rfl, hbg, hg, hnc, hcm, hcs, htake⟩
    · have hx : xs = [] := List.eq_nil_of_length_eq_zero (by have := hown.1; simpa using this)
      subst hx
      by_cases hm : m = 0
      · subst hm
        obtain rfl : news = [] := List.eq_nil_of_length_eq_zero (by rw [hl]; simp)
        refine ⟨.slice none 0 0, w, ?_, World.ownsRow_nil w base e size, ⟨rfl, rfl, rfl, Nat.le_refl _, fun _ _ _ => rfl⟩, fun _ _ _ _ h _ => h, .inl rfl, by simp⟩
        simp [Builtin.append_, run_underlying ht, sizeOf, typeInfo, hi, Builtin.lenOf, Builtin.firstCells, loadCells, loadCellsFrom]
      · have hr := run_append_nil (P := P) w t ty e i z ht hi hz ad m c news (by rw [hsize, hl]) hnews (by omega) (by omega) (by have hb := hbytes; simp only [Nat.zero_add] at hb; omega)
        have hgr := grown 0 (by omega) (Value.ownBlock (.slice none 0 0))
        simp only [Nat.zero_add, List.nil_append, Array.empty_append] at hgr ⊢
        have hgn := grown 0 (by omega) none
        simp only [Nat.zero_add, List.nil_append, Array.empty_append] at hgn
        exact ⟨_, _, hr, hgr.1, hgr.2, fun _ u _ _ h _ => h.kept hgn.2 (by cases hu : u.ownBlock <;> simp), .inr rfl, by simp [hm]⟩
    · by_cases hroom : n + m ≤ cap
      · have hfit : n * i.size + news.length ≤ cur.size := by rw [hl, hcs, hsize, ← Nat.add_mul]; exact Nat.mul_le_mul_right _ hroom
        have hr := run_append_room (P := P) w t ty e i ht hi g n cap cur hg ad m c news (by rw [hsize, hl]) hnews h1 hroom hfit
        rw [hsize] at hr
        have htl : (cur.toList.take (n * size)).length = n * size := by rw [htake, hown.1]
        refine ⟨_, _, hr, ⟨hlen, .inr ⟨g, cap, _, rfl, hbg, setRow_heap w g cur _ e _ hg, hroom, hcm, ?_, ?_⟩⟩, ⟨rfl, rfl, rfl, by simp, fun k _ hk => setRow_other w g k _ (fun e => hk (by simp [Value.ownBlock, e]))⟩,
          ?_, .inl rfl, by simp⟩
        · rw [hsize] at hfit
          simp only [List.size_toArray, List.length_append, List.length_take, List.length_drop, Array.length_toList]
          omega
        · rw [htake, ← hlen]
          exact List.take_left
        · intro b0 u m' ys h hle
          refine ⟨h.1, ?_⟩
          rcases h.2 with h0 | ⟨g', cap', cur', rfl, hb', hg', hnc', hcm', hcs', htake'⟩
          · exact .inl h0
          · by_cases hgg : g' = g
            · subst hgg
              rw [hg] at hg'
              simp only [Option.some.injEq, Obj.cells.injEq, and_true] at hg'
              obtain rfl := hg'
              refine .inr ⟨g', cap', _, rfl, hb', setRow_heap w g' cur _ e _ hg, hnc', hcm', ?_, ?_⟩
              · rw [hsize] at hfit
                rw [← hcs']
                simp only [List.size_toArray, List.length_append, List.length_take, List.length_drop, Array.length_toList]
                omega
              · have hmn := Nat.mul_le_mul_right size (hle rfl)
                rw [List.append_assoc]
                simp only []
                rw [List.take_append_of_le_length (by omega), List.take_take, Nat.min_eq_left hmn, htake']
            · exact .inr ⟨g', cap', cur', rfl, hb', (setRow_other w g g' _ hgg).trans hg', hnc', hcm', hcs', htake'⟩
      · have holds : ∀ j u, xs[j]? = some u → w.cell? ((⟨g, 0, none⟩ : Addr).add j) = some u := hown.cells (g := g) rfl
        have hr := run_append_grow (P := P) w t ty e i z ht hi hz ⟨g, 0, none⟩ n cap xs (by rw [hsize]; exact hown.1) holds ad m c news (by rw [hsize, hl]) hnews (by omega) (by omega) (growslice_fits (by omega) hbytes)
        have hgr := grown cap (by omega) (Value.ownBlock (.slice (some ⟨g, 0, none⟩) n cap))
        have hgn := grown cap (by omega) none
        exact ⟨_, _, hr, hgr.1, hgr.2, fun _ u _ _ h _ => h.kept hgn.2 (by cases hu : u.ownBlock <;> simp), .inr rfl, by simp⟩


end Go.Proofs.Ytnpofjeiamjioaa

namespace Go.Proofs.Ytnpofjeiamjioaa
open Go.RowKit

theorem info_fileR : (Try.prog.info? 62).map (fun i => (i.zero, i.size, i.bytes)) = some (some (.agg #[.int .i64 0, .slice none 0 0, .int .i64 0]), 3, 40) := by kernel_rfl
theorem step_filesR {ops : Array Oper} {o : Oper} {a : Act} {K : Act → World → Prop} {Q : Exit → Act → World → Prop} {F : Prop} (hgd : o.guard = none) (s x : Operand)
    (ho : o.op = .call { callee := .builtin .append, args := #[s, x], argTypes := #[48, 48] })
    (w : World) (B : Nat) (v : Value) (X : List (Fl × Value)) (hs : a.eval s = v) (hown : w.ownsRow B 62 3 v X.length (flatR X)) (ad : Option Addr) (c : Nat) (Y : Fl × Value) (hx : a.eval x = .slice ad 1 c)
    (hsrc : ∃ p, ad = some p ∧ ∀ j u, (flatR [Y])[j]? = some u → w.cell? (p.add j) = some u) (hone : ∀ u ∈ flatR [Y], u.oneCell' = true)
    (hb : X.length ≤ 1073741823) (hbase : B ≤ w.heap.size)
    (h : ∀ v' w', w'.ownsRow B 62 3 v' (X ++ [Y]).length (flatR (X ++ [Y])) → w.grownBy w' v.ownBlock → (v'.ownBlock = v.ownBlock ∨ v'.ownBlock = some w.heap.size) → K (a.put o.dst v') w') :
    if Region.wanted o (yielded ops a.tmps) = true then Oper.wp Try.prog o a w K Q else F := by
  have hw : Region.wanted o (yielded ops a.tmps) = true := by simp [Region.wanted, hgd]
  rw [if_pos hw]
  obtain ⟨i, hi, hz0, hz1, hz2⟩ := info_parts info_fileR
  obtain ⟨v', w', hr, h2, h3, h4, h5, h6⟩ := run_append_keepsG (P := Try.prog) w 3 B 48 o.type 62 i _ Try.underlying48 hi hz0 hz1 rfl v X.length (flatR X) hown ad 1 c (flatR [Y]) (by rw [flatR_length]; rfl) (.inr hsrc) hone (by unfold maxLen; omega) (by rw [hz2]; omega) hbase
  unfold Oper.wp execOp
  simp only [ho, resolve, invoke, builtin, Sem.run_bind, Sem.run_pure, Result.andThen_ok, List.map_toArray, List.map_cons, List.map_nil, hs, hx, hr]
  refine h v' w' ?_ h3 h5
  rw [List.length_append, flatR_append]
  exact h2
theorem src_file (w : World) (f : Fl) (v : Value) : ∃ a, (some (⟨w.heap.size, 0, none⟩ : Addr)) = some a ∧ ∀ j u, (flatR [(f, v)])[j]? = some u → (w.alloc (.cells #[.int .i64 f.num, v, .int .i64 (f.safe : Int)] 62)).cell? (a.add j) = some u := by
  refine ⟨_, rfl, fun j u hj => ?_⟩
  have e : flatR [(f, v)] = [.int .i64 f.num, v, .int .i64 (f.safe : Int)] := rfl
  rw [e] at hj
  have hb := heap_alloc_new w (.cells #[.int .i64 f.num, v, .int .i64 (f.safe : Int)] 62)
  have : (w.alloc (.cells #[.int .i64 f.num, v, .int .i64 (f.safe : Int)] 62)).cell? ⟨w.heap.size, j, none⟩ = some u := by
    simp only [World.cell?, hb]
    simpa using hj
  cases j with
  | zero => simpa [Addr.add] using this
  | succ j => simpa [Addr.add] using this
theorem file_one {f : Fl} {a : Option Addr} {n c : Nat} : ∀ u ∈ flatR [(f, .slice a n c)], u.oneCell' = true := by
  intro u hu
  simp [flatR, cellR] at hu
  rcases hu with rfl | rfl | rfl <;> rfl
theorem row_typeR {w : World} {B e sz n : Nat} {v : Value} {xs : List Value} (h : w.ownsRow B e sz v n xs) {g : Nat} (hg : v.ownBlock = some g) : ∃ cur, w.heap[g]? = some (.cells cur e (0, 0)) := by
  rcases h.2 with ⟨rfl, _⟩ | ⟨g', cap, cur, rfl, _, hc, _⟩
  · cases hg
  · cases hg
    exact ⟨cur, hc⟩
theorem row_formR {w : World} {B e sz n : Nat} {v : Value} {xs : List Value} (h : w.ownsRow B e sz v n xs) : ∃ a c, v = .slice a n c := by
  rcases h.2 with ⟨rfl, h0⟩ | ⟨g, cap, cur, rfl, _⟩
  · exact ⟨none, 0, by rw [h0]⟩
  · exact ⟨_, _, rfl⟩
/-- Files of somebody's own, apart from one another. -/
structure FlsAt (w : World) (B : Nat) (v : Value) (G : List (Fl × Value)) : Prop where
  row : w.ownsRow B 62 3 v G.length (flatR G)
  own : ∀ p ∈ G, Own w B p.2 p.1.data
  ap : ∀ (i k : Nat) x y, G[i]? = some x → G[k]? = some y → i ≠ k → ∀ g, x.2.ownBlock = some g → y.2.ownBlock ≠ some g
theorem snoc_keyR {α : Type} {L : List α} {z u : α} {n : Nat} (h : (L ++ [z])[n]? = some u) : L[n]? = some u ∨ (n = L.length ∧ u = z) := by
  by_cases hi : n < L.length
  · rw [List.getElem?_append_left hi] at h; exact .inl h
  · rw [List.getElem?_append_right (by omega)] at h
    have : n - L.length = 0 := by have := (List.getElem?_eq_some_iff.1 h).1; simp at this; omega
    rw [this] at h
    simp at h
    exact .inr ⟨by omega, h.symm⟩
theorem FlsAt.later {w w' : World} {B : Nat} {v : Value} {G : List (Fl × Value)} (h : FlsAt w B v G) (hb : Below w.heap.size w w') : FlsAt w' B v G :=
  ⟨row_keptR (P := fun _ => False) h.row (Kept.ofBelow hb) (fun _ _ h => h), fun p hp => (h.own p hp).below hb, h.ap⟩
/-- One file more. -/
theorem FlsAt.push {w1 w2 w4 : World} {B : Nat} {v v4 u : Value} {G : List (Fl × Value)} {f : Fl} {o : Obj} (h : FlsAt w1 B v G) (hb : Below w1.heap.size w1 w2) (hu : Own w2 w1.heap.size u f.data) (hB : B ≤ w1.heap.size)
    (ho : w4.ownsRow B 62 3 v4 (G ++ [(f, u)]).length (flatR (G ++ [(f, u)]))) (hg : (w2.alloc o).grownBy w4 v.ownBlock) : FlsAt w4 B v4 (G ++ [(f, u)]) := by
  have h2 := h.later hb
  have ka : Kept (fun g => v.ownBlock = some g) w2 w4 := (Kept.ofBelow ((Below.refl _ w2).alloc (Nat.le_refl _) o)).trans (Kept.ofGrown hg (fun g e => e))
  have n8 : ∀ {z : Value} {x : List UInt8} {Bz : Nat}, Own w2 Bz z x → Own w4 Bz z x := fun {z x Bz} hz => Kept.own ka hz (fun g e e2 => by
    obtain ⟨c1, q1⟩ := row_typeR hz e
    obtain ⟨c2, q2⟩ := row_typeR h2.row e2
    rw [q1] at q2
    simp at q2)
  refine ⟨ho, fun p hp => ?_, fun i k x y hx hy hik g e e2 => ?_⟩
  · rcases List.mem_append.1 hp with hp | hp
    · exact n8 (h2.own p hp)
    · have : p = (f, u) := by simpa using hp
      subst this
      exact (n8 hu).mono hB
  · have old : ∀ {i : Nat} {x : Fl × Value}, G[i]? = some x → x.2.ownBlock = some g → g < w1.heap.size := fun hx e => ((h.own _ (List.mem_of_getElem? hx)).lt g e).2
    rcases snoc_keyR hx with hx | ⟨e1, rfl⟩
    · rcases snoc_keyR hy with hy | ⟨e3, rfl⟩
      · exact h.ap i k x y hx hy hik g e e2
      · have := old hx e
        have := (hu.lt g e2).1
        omega
    · rcases snoc_keyR hy with hy | ⟨e3, rfl⟩
      · have := old hy e2
        have := (hu.lt g e).1
        omega
      · omega
set_option maxHeartbeats 4000000 in
set_option maxRecDepth 1000000 in
theorem files_any11 (w : World) (B rb : Nat) (q : Int) (fv : Value) (F : List (Fl × Value)) (h : RfAt w B rb q fv F) (hF : F.length ≤ 1073741823) (hD : ∀ p ∈ F, p.1.data.length ≤ 1073741823) :
    Calls Try.prog 27 #[.pointer (some ⟨rb, 0, none⟩)] w fun e w' => Below w.heap.size w w' ∧ ∃ v G, e = .returned v ∧ FlsAt w' w.heap.size v G ∧ G.map (·.1) = F.map (·.1) := by
  obtain ⟨fa, fc, rfl⟩ := h.form
  have HR := hideR h
  obtain ⟨N, hN⟩ : ∃ N, N = F.length := ⟨_, rfl⟩
  have HN := hideR hN
  have HD := hideR hD
  rw [← hN] at HR hF
  have b0 : Below w.heap.size w (w.alloc (.cells #[] 62)) := (Below.refl _ w).alloc (Nat.le_refl _) _
  have S0 : HidR (Below w.heap.size w (w.alloc (.cells #[] 62)) ∧ FlsAt (w.alloc (.cells #[] 62)) w.heap.size (.slice (some ⟨w.heap.size, 0, none⟩) 0 0) []) := ⟨b0, World.ownsRow_made w #[] 0 (Nat.le_refl _) (by unfold maxLen; omega) (by simp), fun p hp => (by simp at hp), fun i k x y hx => by simp at hx⟩
  have k1 := (HR.out.later b0).cells.2.1
  clear h hN hD b0
  go_enter Try.func27, Try.ntmps27
  go_wp2_with fail
  clear k1
  go_loopg [3, 4] N (fun gk s3 i wr => ∃ (j : Nat) (la : Option Addr) (lc : Nat) (G : List (Fl × Value)), s3 = .slice la j lc ∧ i = .int .i64 (j : Int) ∧ N - j ≤ gk ∧ j ≤ N ∧ HidR (Below w.heap.size w wr ∧ FlsAt wr w.heap.size (.slice la j lc) G) ∧ HidR (G.map (·.1) = (F.map (·.1)).take j))
  case atStart => exact ⟨0, _, _, [], rfl, rfl, by omega, by omega, S0, ⟨by simp⟩⟩
  case round =>
    obtain ⟨j, la, lc, G, rfl, rfl, hgk, hj, HG, HM⟩ := hrel
    have HRw := hideR (HR.out.later HG.out.1)
    have k1 := HRw.out.cells.2.1
    by_cases hlt : j < N
    · have tlt : (j : Int) < (N : Int) := by omega
      obtain ⟨x, hx⟩ : ∃ x, F[j]? = some x := ⟨_, List.getElem?_eq_getElem (by have := HN.out; omega)⟩
      obtain ⟨g, c, ee, m0, m1, m2, _⟩ := HRw.out.at hx
      simp only [Value.slice.injEq] at ee
      obtain ⟨rfl, q1, rfl⟩ := ee
      obtain ⟨da, dc, ed, hi⟩ := (HRw.out.own x (List.mem_of_getElem? hx)).shape
      rw [ed] at m1
      have hdl := HD.out x (List.mem_of_getElem? hx)
      have hgl : G.length = j := by have := congrArg List.length HM.out; simp at this; have := HN.out; omega
      have HGL := hideR hgl
      have HX : HidR ((F.map (·.1)).take (j + 1) = (F.map (·.1)).take j ++ [x.1]) := ⟨by rw [List.take_add_one, List.getElem?_map, hx]; rfl⟩
      -- the file's box
      obtain ⟨w1, hw1⟩ : ∃ w1, w1 = wr.alloc (.cells #[.int .i64 x.1.num, .slice da x.1.data.length dc, .int .i64 (x.1.safe : Int)] 62) := ⟨_, rfl⟩
      have b1 : Below wr.heap.size wr w1 := by rw [hw1]; exact (Below.refl _ wr).alloc (Nat.le_refl _) _
      have x1 : w1.heap[wr.heap.size]? = some (.cells #[.int .i64 x.1.num, .slice da x.1.data.length dc, .int .i64 (x.1.safe : Int)] 62 (0, 0)) := by rw [hw1]; exact heap_alloc_new wr _
      obtain ⟨c0, c1, c2⟩ : w1.cell? ⟨wr.heap.size, 0, none⟩ = some (.int .i64 x.1.num) ∧ w1.cell? ⟨wr.heap.size, 1, none⟩ = some (.slice da x.1.data.length dc) ∧ w1.cell? ⟨wr.heap.size, 2, none⟩ = some (.int .i64 (x.1.safe : Int)) := by simp [World.cell?, x1]
      have HW1 := hideR hw1
      have HB1 := hideR b1
      have HG1 := hideR (HG.out.2.later b1)
      have CO : HidR (∀ X, Below w1.heap.size w1 X → Calls Try.prog 55 #[.slice da x.1.data.length dc] X fun e w' => Below X.heap.size X w' ∧ ∃ v, e = .returned v ∧ Own w' X.heap.size v x.1.data) := ⟨fun X hX => own_any11 X da dc x.1.data ((hi.below b1).below hX) (by omega)⟩
      have HX1 := hideR x1
      have hz1 := b1.size
      have hzw := HG.out.1.size
      clear hx q1 ed hi hgl hw1 b1 x1
      go_upto_region 6 with fail
      rw [← HW1.out]
      clear k1 m0 m1 m2
      go_region_law (first
        | (go_simp
           go_at_call 55
           refine (CO.out _ (by first | exact (Below.refl _ w1).drew | exact Below.refl _ w1)).mono ?_
           rintro e w2 ⟨b2, v, rfl, hv⟩
           obtain ⟨va, vc, ev, _⟩ := hv.shape
           subst ev
           have B2 : HidR (Below w1.heap.size w1 w2) := ⟨⟨b2.os, b2.tape, b2.output, b2.size, b2.block⟩⟩
           have V2 : HidR (Own w2 w1.heap.size (.slice va x.1.data.length vc) x.1.data) := ⟨hv⟩
           have hb2 := (B2.out.block _ (Array.getElem?_eq_some_iff.1 HX1.out).1).trans HX1.out
           obtain ⟨e0, e1, e2⟩ : w2.cell? ⟨wr.heap.size, 0, none⟩ = some (.int .i64 x.1.num) ∧ w2.cell? ⟨wr.heap.size, 1, none⟩ = some (.slice da x.1.data.length dc) ∧ w2.cell? ⟨wr.heap.size, 2, none⟩ = some (.int .i64 (x.1.safe : Int)) := by simp [World.cell?, hb2]
           have hz2 := B2.out.size
           clear b2 hv hb2)
        | (refine step_filesR rfl (.tmp 23) (.tmp 32) rfl _ w.heap.size (.slice la j lc) G (by first | rfl | simp [Act.eval, Act.put]) (by rw [HGL.out]; exact World.ownsRow.alloc (by have := (HG1.out.later B2.out).row; rw [HGL.out] at this; exact this) _) (some ⟨w2.heap.size, 0, none⟩) 1 (x.1, .slice va x.1.data.length vc) (by first | rfl | simp [Act.eval, Act.put]) (src_file w2 x.1 _) file_one (by rw [HGL.out]; omega) (by rw [World.size_alloc]; omega) ?_
           intro v4 w4 ho hg _
           obtain ⟨a4, c4, e4⟩ := row_formR ho
           rw [List.length_append, HGL.out] at e4
           simp only [List.length_cons, List.length_nil, Nat.zero_add] at e4
           subst e4
           have F4 := hideR (HG1.out.push B2.out V2.out (by omega) ho hg)
           have L4 : HidR (Below w.heap.size w w4) := ⟨((HG.out.1.trans (HB1.out.mono hzw)).trans (B2.out.mono (by omega))).trans (((Kept.ofBelow ((Below.refl _ w2).alloc (Nat.le_refl _) _)).trans (Kept.ofGrown (P := fun g => (Value.slice la j lc).ownBlock = some g) hg (fun g e => e))).below (by omega) (fun g hgw e => by have := (HG1.out.row.lt g e).1; omega))⟩
           clear ho hg))
      all_goals (
        go_wp2_with fail
        go_roundg (N - (j + 1))
        case measure => omega
        case rel => exact ⟨j + 1, a4, c4, G ++ [(x.1, .slice va x.1.data.length vc)], rfl, by go_num, Nat.le_refl _, hlt, ⟨L4.out, F4.out⟩, ⟨by rw [List.map_append, HM.out, HX.out]; rfl⟩⟩)
    · have tlt : ¬ (j : Int) < (N : Int) := by omega
      go_wp2_with fail
      go_ret
      exact ⟨HG.out.1, _, rfl, G, HG.out.2, by rw [HM.out, List.take_of_length_le (by simp; have := HN.out; omega)]⟩
end Go.Proofs.Ytnpofjeiamjioaa
