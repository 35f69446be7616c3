/-
  RefusesKit, DkX.
-/
import Derived.Test.YtnpofjeiamjioaaSameF
import Derived.Test.YtnpofjeiamjioaaArX
import Derived.Test.YtnpofjeiamjioaaDkD
import Derived.Test.YtnpofjeiamjioaaFdX
import Derived.Test.YtnpofjeiamjioaaFsX
namespace Go.Proofs.Ytnpofjeiamjioaa
open Go.RowKit Go.Maps

theorem listRaw {w : World} {lo : Nat} {v : Value} {P : List (Fl × Nat)} {q : Int} {L : List Fl} (h : ListAt w lo v P) (hP : P.map (·.1) = L) (hR : Right q L) : ∃ a c, v = .slice a L.length c ∧ IsRaw w a c (L.map raw) := by
  obtain ⟨a, c, hv, hr⟩ := ListAt.raw h (fun p hp => raw_fits hR (by rw [← hP]; exact List.mem_map_of_mem hp))
  refine ⟨a, c, by rw [← hP, List.length_map]; exact hv, ?_⟩
  rw [← hP, List.map_map]
  exact hr
/-- A list that was handed out in a world w0: it lies below that world's end. -/
theorem listKept {K : Nat → Prop} {w0 w w' : World} {lo : Nat} {v : Value} {P : List (Fl × Nat)} (h0 : ListAt w0 lo v P) (h : ListAt w lo v P) (hk : Kept K w w') (hK : ∀ k, lo ≤ k → k < w0.heap.size → ¬ K k) : ListAt w' lo v P := by
  refine ⟨⟨h.row.1, ?_⟩, fun p hp => ?_, h.apart⟩
  · rcases h.row.2 with hn | ⟨g, cap, cur, rfl, hB, hg, rest⟩
    · exact .inl hn
    · obtain ⟨cur0, hc0, hb0⟩ := h0.block (k := g) rfl
      exact .inr ⟨g, cap, cur, rfl, hB, (hk.block g (Array.getElem?_eq_some_iff.1 hg).1 (hK g hB (Array.getElem?_eq_some_iff.1 hc0).1)).trans hg, rest⟩
  · obtain ⟨h1, h2⟩ := h.data p hp
    exact ⟨(hk.block p.2 h1.lt (hK p.2 h2 (h0.data p hp).1.lt)).trans h1, h2⟩
theorem sameFilesL (a1 a2 : Option Addr) (c1 c2 : Nat) (L : List Fl) (w : World) (h1 : IsRaw w a1 c1 (L.map raw)) (h2 : IsRaw w a2 c2 (L.map raw)) :
    Calls Try.prog 28 #[.slice a1 L.length c1, .slice a2 L.length c2] w fun e w' => e = .returned (.bool true) ∧ ∃ n, w' = w.drewN n := by
  have := sameFiles_yes a1 a2 c1 c2 (L.map raw) w h1 h2
  rw [List.length_map] at this
  exact this
theorem within_of {n a b : Int} (h1 : a ≤ n) (h2 : n ≤ b) : withinB n a b = true := by simp [withinB, h1, h2]
theorem chkL_of : ∀ (L : List Fl) (la : Int), Rising L → (∀ f ∈ L, la < f.num ∧ f.num ≤ 1099511627776 ∧ f.safe ≤ f.data.length) → chkL la (L.map raw) = 0
  | [], _, _, _ => rfl
  | x :: r, la, hr, h => by
    have hx := h x List.mem_cons_self
    rw [List.map_cons, chkL]
    rw [if_pos (show withinB (raw x).num (la + 1) 1099511627776 = true from within_of (by show la + 1 ≤ x.num; omega) hx.2.1), if_pos (show withinB (raw x).safe 0 ((raw x).data.length : Int) = true from within_of (by show 0 ≤ (x.safe : Int); omega) (by show (x.safe : Int) ≤ (x.data.length : Int); omega))]
    exact chkL_of r x.num hr.tail (fun f hf => ⟨hr.head f hf, (h f (List.mem_cons_of_mem _ hf)).2⟩)
theorem totR_raw (L : List Fl) : totR (L.map raw) = total L := by
  simp only [total, totR, List.map_map]
  rfl
theorem chk_of {q : Int} {L : List Fl} (h : Right q L) : chk q (L.map raw) = 0 := by
  have h1 := chkL_of L 0 h.rise (fun f hf => by have := h.ok f hf; omega)
  have h2 := h.fits
  have h3 := h.quota
  rw [chk, if_pos (show withinB q 1024 67108864 = true from within_of h3.1 h3.2), if_pos h1, if_neg (by rw [totR_raw]; omega)]
theorem cook_map (L : List Fl) : (L.map raw).map cook = L := by
  rw [List.map_map]
  have : cook ∘ raw = id := funext fun f => cook_raw f
  rw [this, List.map_id]
theorem loadL (q : Int) (a : Option Addr) (c : Nat) (L : List Fl) (w : World) (hR : Right q L) (h : IsRaw w a c (L.map raw)) :
    Calls Try.prog 23 #[.int .i64 q, .slice a L.length c] w fun e w' => ∃ db mb vs, e = .returned (.tuple #[.pointer (some ⟨db, 0, none⟩), .int .i64 0]) ∧ DiskAt w' db mb q L vs ∧ (∀ k, Mine db mb L vs k → w.heap.size ≤ k) ∧ Below w.heap.size w w' := by
  have hl := load_any q a c (L.map raw) w h (by rw [totR_raw]; have := hR.fits; have := hR.quota; omega)
  rw [List.length_map] at hl
  refine hl.mono ?_
  rintro e w' ⟨B, h1⟩
  rcases h1 with ⟨h1, _⟩ | ⟨_, db, mb, vs, he, hd, hm⟩
  · exact absurd (chk_of hR) h1
  · rw [cook_map] at hd hm
    exact ⟨db, mb, vs, he, hd, hm, B⟩
theorem act_err {q : Int} {L : List Fl} {k n : Int} {d : List UInt8} {z : Int} (h : (act q L k n d z).1 ≠ 0) : (act q L k n d z).2 = L := by
  unfold act at h ⊢
  split
  · rename_i hk
    rw [if_pos hk] at h
    unfold actCreate at h ⊢
    split <;> (try split) <;> simp_all
  · rename_i hk
    rw [if_neg hk] at h
    split
    · rename_i hk
      rw [if_pos hk] at h
      unfold actAppend at h ⊢
      split <;> (try split) <;> simp_all
    · rename_i hk
      rw [if_neg hk] at h
      split
      · rename_i hk
        rw [if_pos hk] at h
        unfold actSync at h ⊢
        split <;> simp_all
      · rename_i hk
        rw [if_neg hk] at h
        split
        · rename_i hk
          rw [if_pos hk] at h
          unfold actCut at h ⊢
          split <;> (try split) <;> simp_all
        · rename_i hk
          rw [if_neg hk] at h
          split
          · rename_i hk
            rw [if_pos hk] at h
            unfold actRemove at h ⊢
            split <;> simp_all
          · rfl
end Go.Proofs.Ytnpofjeiamjioaa

namespace Go.Proofs.Ytnpofjeiamjioaa
open Go.RowKit

def toR (p : Fl × Nat) : Fl × Value := (p.1, .slice (some ⟨p.2, 0, none⟩) p.1.data.length p.1.data.length)
theorem flatF_R (P : List (Fl × Nat)) : flatF P = flatR (P.map toR) := by
  unfold flatF flatR
  rw [List.flatMap_map]
  rfl
theorem Own.ofRow {w : World} {g lo : Nat} {d : List UInt8} (h : ByteRow w 5 g d) (hl : lo ≤ g) (hd : d.length ≤ 140737488355328) : Own w lo (.slice (some ⟨g, 0, none⟩) d.length d.length) d := by
  refine ⟨by rw [u8s_length]; omega, .inr ⟨g, d.length, _, rfl, hl, h, Nat.le_refl _, by unfold maxLen; omega, by simp [u8s_length], ?_⟩⟩
  simp only []
  rw [List.take_of_length_le (by simp [u8s_length])]
/-- A list that the program handed out. -/
theorem ListAt.fls {w : World} {lo : Nat} {v : Value} {P : List (Fl × Nat)} (h : ListAt w lo v P) (hd : ∀ p ∈ P, p.1.data.length ≤ 140737488355328) : FlsAt w lo v (P.map toR) := by
  refine ⟨?_, fun p hp => ?_, fun i k x y hx hy hik g e e2 => ?_⟩
  · rw [List.length_map, ← flatF_R]
    exact h.row
  · obtain ⟨a, ha, rfl⟩ := List.mem_map.1 hp
    exact Own.ofRow (h.data a ha).1 (h.data a ha).2 (hd a ha)
  · rw [List.getElem?_map] at hx hy
    obtain ⟨a, ha, rfl⟩ := Option.map_eq_some_iff.1 hx
    obtain ⟨b, hb, rfl⟩ := Option.map_eq_some_iff.1 hy
    simp only [toR, Value.ownBlock, Option.some.injEq] at e e2
    have ⟨hi, ea⟩ := List.getElem?_eq_some_iff.1 ha
    have ⟨hk, eb⟩ := List.getElem?_eq_some_iff.1 hb
    have hp := List.pairwise_iff_getElem.1 h.apart
    rcases Nat.lt_or_gt_of_ne hik with hlt | hlt
    · have := hp i k hi hk hlt
      rw [ea, eb] at this
      omega
    · have := hp k i hk hi hlt
      rw [ea, eb] at this
      omega
/-- One list more, told by where it lies. -/
theorem Aps.push {P : List Ls} {x : Ls} {lo hi t : Nat} (h : Aps P) (hO : ∀ g, x.ov.ownBlock = some g → lo ≤ g ∧ g < hi) (hOd : ∀ z ∈ x.l, ∀ g, z.od.ownBlock = some g → lo ≤ g ∧ g < hi) (hW : ∀ g, x.wv.ownBlock = some g → t ≤ g) (hWd : ∀ z ∈ x.l, ∀ g, z.wd.ownBlock = some g → t ≤ g) (hht : hi ≤ t)
    (hP : ∀ y ∈ P, ∀ g, LsB y g → (g < lo ∨ hi ≤ g) ∧ g < t) (hap : ∀ (m n : Nat) a b, x.l[m]? = some a → x.l[n]? = some b → m ≠ n → Apt a.od b.od) : Aps (P ++ [x]) := by
  refine h.snoc (fun g e e2 => ?_) (fun y hy => ⟨⟨fun g e e2 => ?_, fun g e e2 => ?_⟩, fun g e e2 => ?_, fun g e e2 => ?_⟩) (fun m n a b ha hb => ⟨hap m n a b ha hb, fun g e e2 => ?_⟩) (fun y hy a ha b hb => ⟨fun g e e2 => ?_, fun g e e2 => ?_, fun g e e2 => ?_⟩)
  · have := hO g e; have := hW g e2; omega
  · have := hO g e; have := hP y hy g (.inl e2); omega
  · have := hW g e; have := hP y hy g (.inr (.inl e2)); omega
  · have := hO g e; have := hP y hy g (.inr (.inl e2)); omega
  · have := hW g e2; have := hP y hy g (.inl e); omega
  · have := hOd a (List.mem_of_getElem? ha) g e; have := hWd b (List.mem_of_getElem? hb) g e2; omega
  · have := hOd a ha g e; have := hP y hy g (.inr (.inr ⟨b, hb, .inl e2⟩)); omega
  · have := hOd a ha g e; have := hP y hy g (.inr (.inr ⟨b, hb, .inr e2⟩)); omega
  · have := hWd a ha g e2; have := hP y hy g (.inr (.inr ⟨b, hb, .inl e⟩)); omega
/-- Blocks of the struct and of its two lists. -/
def Fd3 (hb : Nat) (vo vw : Value) (g : Nat) : Prop := g = hb ∨ vo.ownBlock = some g ∨ vw.ownBlock = some g
theorem Fd3.b {hb : Nat} {vo vw : Value} {P : List Ls} {g : Nat} (h : Fd3 hb vo vw g) : FdB hb vo vw P g := by
  rcases h with e | e | e
  · exact .inl e
  · exact .inr (.inl e)
  · exact .inr (.inr (.inl e))
/-- The book, and what it has (S: whether that is known). -/
structure Bk (S : Prop) (w : World) (B hb : Nat) (vo vw : Value) (P : List Ls) (sz : Int) (M : Nat) : Prop where
  fd : FdAt w B hb vo vw P sz
  ap : S → Aps P
  eq : S → Eql P
  few : S → ∀ x ∈ P, x.l.length ≤ M ∧ ∀ z ∈ x.l, z.ob.length ≤ 67108864
theorem odb_snoc (P : List Ls) (x : Ls) : (odb (skL (P ++ [x]))).length = (odb (skL P)).length + x.l.length := by simp [odb, skL, Ls.k]
/-- A list is kept. -/
theorem Bk.keep {S : Prop} {w w' : World} {B hb lo hi M : Nat} {vo vw v : Value} {P : List Ls} {sz : Int} {G : List (Fl × Value)} (h : Bk S w B hb vo vw P sz M) (hf : FlsAt w lo v G) (hk : KeepFP w B hb vo vw P sz v G w') (hlo : ∀ g, (v.ownBlock = some g ∨ ∃ p ∈ G, p.2.ownBlock = some g) → lo ≤ g ∧ g < hi) (hht : hi ≤ w.heap.size)
    (hP : ∀ y ∈ P, ∀ g, LsB y g → g < lo ∨ hi ≤ g) (hG : G.length ≤ M) (hd : ∀ p ∈ G, p.1.data.length ≤ 67108864) :
    Kept (Fd3 hb vo vw) w w' ∧ ∃ vo' vw' sz' x, Bk S w' B hb vo' vw' (P ++ [x]) sz' M ∧ (∀ g, FdB hb vo' vw' (P ++ [x]) g → FdB hb vo vw P g ∨ (v.ownBlock = some g ∨ ∃ p ∈ G, p.2.ownBlock = some g) ∨ w.heap.size ≤ g) ∧ (∀ g, Fd3 hb vo' vw' g → Fd3 hb vo vw g ∨ w.heap.size ≤ g) ∧ x.l.length = G.length ∧ (0 ≤ sz → sz ≤ 2305843009213693952 → sz + G.length ≤ sz' ∧ sz' ≤ sz + G.length * 1073741824) := by
  obtain ⟨k1, vo', vw', sz', x, fd, ex, eo, eq, lw, ld, l1, l2, lz⟩ := hk
  have ho : ∀ z ∈ x.l, z.o ∈ G := fun z hz => by rw [← eo]; exact List.mem_map_of_mem hz
  have hxl : x.l.length = G.length := by have := congrArg List.length eo; simpa using this
  refine ⟨k1, vo', vw', sz', x, ⟨fd, fun hS => ?_, fun hS y hy z hz => ?_, fun hS y hy => ?_⟩, fun g e => ?_, fun g e => ?_, hxl, lz⟩
  · refine (h.ap hS).push (lo := lo) (hi := hi) (t := w.heap.size) (fun g e => hlo g (.inl (ex ▸ e))) (fun z hz g e => hlo g (.inr ⟨z.o, ho z hz, e⟩)) lw ld hht (fun y hy g hg => ⟨hP y hy g hg, h.fd.blt (.inr (.inr (.inr ⟨y, hy, hg⟩)))⟩) (fun m n a b ha hb hmn => ?_)
    have h1 : G[m]? = some a.o := by rw [← eo, List.getElem?_map, ha]; rfl
    have h2 : G[n]? = some b.o := by rw [← eo, List.getElem?_map, hb]; rfl
    exact hf.ap m n _ _ h1 h2 hmn
  · rcases List.mem_append.1 hy with hy | hy
    · exact h.eq hS y hy z hz
    · have : y = x := by simpa using hy
      rw [this] at hz
      exact eq z hz
  · rcases List.mem_append.1 hy with hy | hy
    · exact h.few hS y hy
    · have : y = x := by simpa using hy
      rw [this]
      exact ⟨by omega, fun z hz => hd z.o (ho z hz)⟩
  · rcases e with e | e | e | ⟨y, hy, e⟩
    · exact .inl (.inl e)
    · rcases l1 g e with e | e
      · exact .inl (.inr (.inl e))
      · exact .inr (.inr e)
    · rcases l2 g e with e | e
      · exact .inl (.inr (.inr (.inl e)))
      · exact .inr (.inr e)
    · rcases List.mem_append.1 hy with hy | hy
      · exact .inl (.inr (.inr (.inr ⟨y, hy, e⟩)))
      · have : y = x := by simpa using hy
        rw [this] at e
        rcases e with e | e | ⟨z, hz, e | e⟩
        · exact .inr (.inl (.inl (ex ▸ e)))
        · exact .inr (.inr (lw g e))
        · exact .inr (.inl (.inr ⟨z.o, ho z hz, e⟩))
        · exact .inr (.inr (ld z hz g e))
  · rcases e with e | e | e
    · exact .inl (.inl e)
    · rcases l1 g e with e | e
      · exact .inl (.inr (.inl e))
      · exact .inr e
    · rcases l2 g e with e | e
      · exact .inl (.inr (.inr e))
      · exact .inr e
theorem FlsAt.mono {w : World} {B B' : Nat} {v : Value} {G : List (Fl × Value)} (h : FlsAt w B v G) (hB : B' ≤ B) : FlsAt w B' v G := ⟨h.row.monoR hB, fun p hp => (h.own p hp).mono hB, h.ap⟩
theorem FlsAt.keptK {w w' : World} {B : Nat} {v : Value} {G : List (Fl × Value)} {K : Nat → Prop} (h : FlsAt w B v G) (hk : Kept K w w') (hK : ∀ g, (v.ownBlock = some g ∨ ∃ p ∈ G, p.2.ownBlock = some g) → ¬ K g) : FlsAt w' B v G :=
  ⟨row_keptR h.row hk (fun g e => hK g (.inl e)), fun p hp => Kept.own hk (h.own p hp) (fun g e => hK g (.inr ⟨p, hp, e⟩)), h.ap⟩
end Go.Proofs.Ytnpofjeiamjioaa

namespace Go.Proofs.Ytnpofjeiamjioaa
open Go.RowKit

/-- What looks leaves. -/
def LooksP (S : Prop) (w : World) (B db mb : Nat) (q : Int) (L : List Fl) (vs : Int → Value) (rb : Nat) (fv : Value) (F : List (Fl × Value)) (hb : Nat) (vo vw : Value) (P : List Ls) (sz : Int) (M : Nat) (w' : World) : Prop :=
  Kept (Fd3 hb vo vw) w w' ∧ Pr w' B db mb q L vs rb fv F ∧ ∃ vo' vw' sz' P', Bk S w' B hb vo' vw' P' sz' M ∧ P'.length = P.length + 2 ∧ (∀ g, FdB hb vo' vw' P' g → FdB hb vo vw P g ∨ w.heap.size ≤ g) ∧ (∀ g, Fd3 hb vo' vw' g → Fd3 hb vo vw g ∨ w.heap.size ≤ g) ∧ (odb (skL P')).length = (odb (skL P)).length + (L.length + L.length) ∧ (0 ≤ sz → sz ≤ 1152921504606846976 → sz + (L.length + L.length) ≤ sz')
set_option linter.unusedSimpArgs false in
set_option maxHeartbeats 4000000 in
set_option maxRecDepth 1000000 in
theorem looks_any (S : Prop) (w : World) (B db mb : Nat) (q : Int) (L : List Fl) (vs : Int → Value) (rb : Nat) (fv : Value) (F : List (Fl × Value)) (h : Pr w B db mb q L vs rb fv F) (hb : Nat) (vo vw : Value) (P : List Ls) (sz : Int) (M : Nat) (hk : Bk S w B hb vo vw P sz M) (hap : ∀ g, Fd3 hb vo vw g → ¬ PM db mb L vs rb fv F g) (hB : B ≤ w.heap.size) (hl : L.length ≤ M) (hM : M ≤ 1073741000) (hP : P.length ≤ 1073741000) :
    Calls Try.prog 11 #[.agg #[.pointer (some ⟨db, 0, none⟩), .pointer (some ⟨rb, 0, none⟩)], .pointer (some ⟨hb, 0, none⟩)] w fun e w' => e = .returned (.bool true) ∧ LooksP S w B db mb q L vs rb fv F hb vo vw P sz M w' := by
  have HP := hideR h
  have HK := hideR hk
  have HA := hideR hap
  have hR := h.dk.right
  have HRt := hideR hR
  have hd0 : ∀ f ∈ L, f.data.length ≤ 67108864 := fun f hf => by have := len_le hf; have := hR.fits; have := hR.quota; omega
  have hfit : ∀ f ∈ L, -9223372036854775808 ≤ f.num ∧ f.num ≤ 9223372036854775807 ∧ f.safe ≤ 9223372036854775807 ∧ f.data.length ≤ 1073741823 := fun f hf => by
    have := hR.ok f hf
    have := hd0 f hf
    omega
  have HD0 := hideR (And.intro hd0 hfit)
  obtain ⟨w1, hw1⟩ : ∃ w1, w1 = w.alloc (.cells #[.pointer (some ⟨db, 0, none⟩), .pointer (some ⟨rb, 0, none⟩)] 33) := ⟨_, rfl⟩
  have b1 : Below w.heap.size w w1 := by rw [hw1]; exact (Below.refl _ w).alloc (Nat.le_refl _) _
  have x1 : w1.heap[w.heap.size]? = some (.cells #[.pointer (some ⟨db, 0, none⟩), .pointer (some ⟨rb, 0, none⟩)] 33 (0, 0)) := by rw [hw1]; exact heap_alloc_new w _
  have HB1 := hideR b1
  have HX1 := hideR x1
  have p0 : w1.cell? ⟨w.heap.size, 0, none⟩ = some (.pointer (some ⟨db, 0, none⟩)) := by simp [World.cell?, x1]
  have C1 := hideR (files_any w1 db mb q L vs (h.dk.below b1))
  clear h hk hap hR hd0 hfit b1 x1
  go_enter Try.func11, Try.ntmps11
  go_upto_region 2 with (go_at_call 20
                         rw [← hw1]
                         refine C1.out.mono ?_
                         rintro e w2 ⟨va, rfl, Pa, ea, la, b2⟩
                         have A2 := hideR (And.intro ea la)
                         have B2 := hideR b2
                         clear ea la b2)
  clear hw1 p0
  have x2 := (B2.out.block _ (Array.getElem?_eq_some_iff.1 HX1.out).1).trans HX1.out
  have HX2 := hideR x2
  have HBW2 := hideR (HB1.out.trans (B2.out.mono HB1.out.size))
  have p0 : w2.cell? ⟨w.heap.size, 0, none⟩ = some (.pointer (some ⟨db, 0, none⟩)) := by simp [World.cell?, x2]
  have C2 := hideR (files_any w2 db mb q L vs (HP.out.dk.below HBW2.out))
  clear x2
  go_upto_region 3 with (go_at_call 20
                         refine C2.out.mono ?_
                         rintro e w3 ⟨vb, rfl, Pb, eb, lb, b3⟩
                         have A3 := hideR (And.intro eb lb)
                         have B3 := hideR b3
                         clear eb lb b3)
  clear p0
  have x3 := (B3.out.block _ (Array.getElem?_eq_some_iff.1 HX2.out).1).trans HX2.out
  have HX3 := hideR x3
  have HBW3 := hideR (HBW2.out.trans (B3.out.mono HBW2.out.size))
  have p1 : w3.cell? ⟨w.heap.size, 1, none⟩ = some (.pointer (some ⟨rb, 0, none⟩)) := by simp [World.cell?, x3]
  have C3 := hideR (files_any11 w3 B rb q fv F (HP.out.rf.later HBW3.out) (by have := HP.out.len; omega) (fun p hp => by
    have hm : p.1 ∈ L := by rw [← HP.out.eq]; exact List.mem_map_of_mem hp
    have := HD0.out.1 p.1 hm
    omega))
  clear x3
  go_upto_region 4 with (go_at_call 27
                         refine C3.out.mono ?_
                         rintro e w4 ⟨b4, u, G, rfl, f4, e4⟩
                         have A4 := hideR (And.intro f4 e4)
                         have B4 := hideR b4
                         clear f4 e4 b4)
  clear p1
  have x4 := (B4.out.block _ (Array.getElem?_eq_some_iff.1 HX3.out).1).trans HX3.out
  have HBW4 := hideR (HBW3.out.trans (B4.out.mono HBW3.out.size))
  have b24 := B3.out.trans (B4.out.mono B3.out.size)
  obtain ⟨aa, ca, eva, ia⟩ := listRaw (A2.out.2.below b24) A2.out.1 HRt.out
  obtain ⟨ab, cb, evb, ib⟩ := listRaw (A3.out.2.below B4.out) A3.out.1 HRt.out
  obtain ⟨au, cu, evu, iu⟩ := rows_raw A4.out.1.row A4.out.1.own (fun p hp => by
    have hm : p.1 ∈ L := by rw [← HP.out.eq, ← A4.out.2]; exact List.mem_map_of_mem hp
    exact (raw_fits HRt.out hm).1)
  have hgl : G.length = L.length := by have := congrArg List.length A4.out.2; simp only [List.length_map] at this; have := HP.out.len; omega
  have iu2 : IsRaw w4 au cu (L.map raw) := by
    have e : (G.map fun p => raw p.1) = L.map raw := by rw [← HP.out.eq, ← A4.out.2, List.map_map]; rfl
    rw [← e]
    exact iu
  rw [hgl] at evu
  have Ia := hideR ia
  have Ib := hideR ib
  have Iu := hideR iu2
  obtain ⟨p0, p1⟩ : w4.cell? ⟨w.heap.size, 0, none⟩ = some (.pointer (some ⟨db, 0, none⟩)) ∧ w4.cell? ⟨w.heap.size, 1, none⟩ = some (.pointer (some ⟨rb, 0, none⟩)) := by simp [World.cell?, x4]
  have EV := hideR (And.intro eva (And.intro evb evu))
  have CU : HidR (∀ X, Below w4.heap.size w4 X → Calls Try.prog 21 #[.pointer (some ⟨db, 0, none⟩)] X fun e w' => e = .returned (.int .i64 (total L : Int)) ∧ w' = X) := ⟨fun X hX => used_any X db mb q L vs ((HP.out.dk.below HBW4.out).below hX)⟩
  have CV : HidR (∀ X, Below w4.heap.size w4 X → Calls Try.prog 29 #[.pointer (some ⟨rb, 0, none⟩)] X fun e w' => e = .returned (.int .i64 (total L : Int)) ∧ w' = X) := ⟨fun X hX => by
    have := used_any11 X B rb q fv F ((HP.out.rf.later HBW4.out).later hX) (by have := HP.out.len; omega) (by rw [HP.out.eq]; have := HRt.out.fits; have := HRt.out.quota; omega)
    rw [HP.out.eq] at this
    exact this⟩
  have CAB : HidR (∀ (x : Option Addr) (cx : Nat), (x = aa ∧ cx = ca) ∨ (x = ab ∧ cx = cb) → ∀ X, Below w4.heap.size w4 X → Calls Try.prog 28 #[.slice x L.length cx, .slice au L.length cu] X fun e w' => e = .returned (.bool true) ∧ ∃ n, w' = X.drewN n) := ⟨fun x cx hx X hX => by
    rcases hx with ⟨rfl, rfl⟩ | ⟨rfl, rfl⟩
    · exact sameFilesL _ au _ cu L X (Ia.out.below hX) (Iu.out.below hX)
    · exact sameFilesL _ au _ cu L X (Ib.out.below hX) (Iu.out.below hX)⟩
  have ett : ((total L : Int) != (total L : Int)) = false := by simp
  subst eva evb evu
  clear x4 b24 ia ib iu iu2 hgl
  go_quiet (first
    | (go_at_call 21; exact Calls.quiet_of ((CU.out _ (below_drewN (Below.refl _ w4) _)).mono (fun e w' he => ⟨he.1, 0, by rw [he.2]; rfl⟩)))
    | (go_at_call 29; exact Calls.quiet_of ((CV.out _ (below_drewN (Below.refl _ w4) _)).mono (fun e w' he => ⟨he.1, 0, by rw [he.2]; rfl⟩)))
    | (go_at_call 28; exact Calls.quiet_of (CAB.out _ _ (by first | exact .inl ⟨rfl, rfl⟩ | exact .inr ⟨rfl, rfl⟩) _ (below_drewN (Below.refl _ w4) _))))
  generalize hwq : w4.drewN _ = w5
  have B5 : HidR (Below w4.heap.size w4 w5) := ⟨by rw [← hwq]; exact below_drewN (Below.refl _ w4) _⟩
  clear hwq p0 p1 ett
  have b25 := (B3.out.trans (B4.out.mono B3.out.size)).trans (B5.out.mono (Nat.le_trans B3.out.size B4.out.size))
  have HBW5 := hideR (HBW4.out.trans (B5.out.mono HBW4.out.size))
  have la5 := A2.out.2.below b25
  have lb5 := A3.out.2.below (B4.out.trans (B5.out.mono B4.out.size))
  have hda : ∀ p ∈ Pa, p.1 ∈ L := fun p hp => by rw [← A2.out.1]; exact List.mem_map_of_mem hp
  have hdb : ∀ p ∈ Pb, p.1 ∈ L := fun p hp => by rw [← A3.out.1]; exact List.mem_map_of_mem hp
  have fa5 := la5.fls (fun p hp => by have := HD0.out.1 p.1 (hda p hp); omega)
  have fb5 := lb5.fls (fun p hp => by have := HD0.out.1 p.1 (hdb p hp); omega)
  have hla : (Pa.map toR).length = L.length := by rw [List.length_map, ← A2.out.1, List.length_map]
  have hlb : (Pb.map toR).length = L.length := by rw [List.length_map, ← A3.out.1, List.length_map]
  have za1 := HB1.out.size
  have za2 := B2.out.size
  have za3 := B3.out.size
  have za4 := B4.out.size
  have za5 := B5.out.size
  have K5 : HidR (Bk S w5 B hb vo vw P sz M) := ⟨⟨HK.out.fd.later HBW5.out, HK.out.ap, HK.out.eq, HK.out.few⟩⟩
  have fita : ∀ p ∈ Pa.map toR, p.1 ∈ L := fun p hp => by obtain ⟨a, ha, rfl⟩ := List.mem_map.1 hp; exact hda a ha
  have fitb : ∀ p ∈ Pb.map toR, p.1 ∈ L := fun p hp => by obtain ⟨a, ha, rfl⟩ := List.mem_map.1 hp; exact hdb a ha
  have C6 := hideR (fkeep_any w5 B hb vo vw P sz K5.out.fd (by omega) (.slice aa L.length ca) (Pa.map toR) (fa5.row.monoR (by omega)) (fun p hp => (fa5.own p hp).mono (by omega)) (fun p hp => HD0.out.2 p.1 (fita p hp)) (by omega) (by omega))
  -- where the two lists lie
  have ra : ∀ g, ((Value.slice aa L.length ca).ownBlock = some g ∨ ∃ p ∈ Pa.map toR, p.2.ownBlock = some g) → w1.heap.size ≤ g ∧ g < w2.heap.size := fun g e => by
    have f2 := A2.out.2.fls (fun p hp => by have := HD0.out.1 p.1 (hda p hp); omega)
    rcases e with e | ⟨p, hp, e⟩
    · exact f2.row.lt g e
    · exact (f2.own p hp).lt g e
  have rb2 : ∀ g, ((Value.slice ab L.length cb).ownBlock = some g ∨ ∃ p ∈ Pb.map toR, p.2.ownBlock = some g) → w2.heap.size ≤ g ∧ g < w3.heap.size := fun g e => by
    have f3 := A3.out.2.fls (fun p hp => by have := HD0.out.1 p.1 (hdb p hp); omega)
    rcases e with e | ⟨p, hp, e⟩
    · exact f3.row.lt g e
    · exact (f3.own p hp).lt g e
  have RA := hideR (And.intro ra rb2)
  have FA := hideR (And.intro fa5 (And.intro fb5 (And.intro fita fitb)))
  have HL := hideR (And.intro hla hlb)
  clear b25 la5 lb5 hda hdb fa5 fb5 fita fitb ra rb2 hla hlb
  go_upto_region 7 with (go_at_call 30
                         refine C6.out.mono ?_
                         rintro e w6 ⟨rfl, k6⟩
                         have k7 := K5.out.keep (lo := w1.heap.size) (hi := w2.heap.size) (FlsAt.mono FA.out.1 (Nat.le_refl _)) k6 RA.out.1 (by omega) (fun y hy g hg => by
                           have := HK.out.fd.blt (.inr (.inr (.inr ⟨y, hy, hg⟩)))
                           omega) (by have := HL.out.1; omega) (fun p hp => HD0.out.1 p.1 (FA.out.2.2.1 p hp))
                         have H6 := hideR k7
                         clear k6 k7)
  obtain ⟨k6, vo6, vw6, sz6, x6, bk6, org6, o36, xl6, zs6⟩ := H6.out
  have hz6 := k6.size
  have fb6 : FlsAt w6 w2.heap.size (.slice ab L.length cb) (Pb.map toR) := FA.out.2.1.keptK k6 (fun g e => by
    have := RA.out.2 g e
    intro e2
    have := HK.out.fd.blt (Fd3.b e2)
    omega)
  have C7 := hideR (fkeep_any w6 B hb vo6 vw6 (P ++ [x6]) sz6 bk6.fd (by omega) (.slice ab L.length cb) (Pb.map toR) (fb6.row.monoR (by omega)) (fun p hp => (fb6.own p hp).mono (by omega)) (fun p hp => HD0.out.2 p.1 (FA.out.2.2.2 p hp)) (by have := HL.out.2; omega) (by rw [List.length_append]; simp; omega))
  have HH6 := hideR (And.intro k6 (And.intro bk6 (And.intro org6 fb6)))
  have HX6 := hideR (And.intro o36 (And.intro xl6 zs6))
  clear k6 bk6 org6 fb6 H6 o36 xl6 zs6
  go_wp2_with (go_at_call 30
               refine C7.out.mono ?_
               rintro e w7 ⟨rfl, k7⟩
               have k8 := HH6.out.2.1.keep (lo := w2.heap.size) (hi := w3.heap.size) HH6.out.2.2.2 k7 RA.out.2 (by omega) (fun y hy g hg => by
                 rcases HH6.out.2.2.1 g (.inr (.inr (.inr ⟨y, hy, hg⟩))) with e | e | e
                 · have := HK.out.fd.blt e
                   omega
                 · have := RA.out.1 g e
                   omega
                 · right
                   omega) (by have := HL.out.2; omega) (fun p hp => HD0.out.1 p.1 (FA.out.2.2.2 p hp))
               have H7 := hideR k8
               clear k7 k8)
  go_ret
  obtain ⟨k7, vo7, vw7, sz7, x7, bk7, org7, o37, xl7, zs7⟩ := H7.out
  obtain ⟨o36, xl6, zs6⟩ := HX6.out
  obtain ⟨k6, bk6, org6, fb6⟩ := HH6.out
  have org : ∀ g, FdB hb vo7 vw7 (P ++ [x6] ++ [x7]) g → FdB hb vo vw P g ∨ w.heap.size ≤ g := fun g e => by
    rcases org7 g e with e | e | e
    · rcases org6 g e with e | e | e
      · exact .inl e
      · have := RA.out.1 g e
        exact .inr (by omega)
      · exact .inr (by omega)
    · have := RA.out.2 g e
      exact .inr (by omega)
    · exact .inr (by omega)
  have kk : Kept (Fd3 hb vo vw) w w7 := ((Kept.ofBelow HBW5.out).trans k6).step k7 (fun j hj e => by
    rcases o36 j e with e | e
    · exact e
    · omega)
  refine ⟨by simp, kk, HP.out.kept kk (fun g e e2 => HA.out g e2 e), vo7, vw7, sz7, P ++ [x6] ++ [x7], bk7, by simp, org, fun g e => ?_, ?_, fun h0 h1 => ?_⟩
  · rcases o37 g e with e | e
    · rcases o36 g e with e | e
      · exact .inl e
      · exact .inr (by omega)
    · exact .inr (by omega)
  · have h1 := HL.out.1
    have h2 := HL.out.2
    rw [odb_snoc, odb_snoc, xl6, xl7]
    omega
  · have h3 := HL.out.1
    have h4 := HL.out.2
    have h5 := zs6 h0 (by omega)
    have h6 := zs7 (by omega) (by omega)
    omega
end Go.Proofs.Ytnpofjeiamjioaa
