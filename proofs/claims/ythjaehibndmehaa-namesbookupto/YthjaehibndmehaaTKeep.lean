/-
  The walk of the method keep.
-/
import Derived.Test.YthjaehibndmehaaTSpoiling
import Derived.Test.YthjaehibndmehaaTHolds
import Derived.Deep.Cut
namespace Go.Proofs.Ythjaehibndmehaa
open Go.RowKit Go.Lib

theorem one_new (w : World) (v : Value) (t : TypeId) : ∃ p, (some (⟨w.heap.size, 0, none⟩ : Addr)) = some p ∧ ∀ j u, [v][j]? = some u → (w.alloc (.cells #[v] t)).cell? (p.add j) = some u := by
  refine ⟨_, rfl, fun j u hj => ?_⟩
  match j, hj with
  | 0, hj => simpa [Addr.add] using hj
  | (j + 1), hj => simp at hj

/-- 'append' of one slice onto a list of the call's own. -/
theorem wpList_push {w : World} {ops : Array Oper} {rest : List Oper} {o : Oper} {a : Act} {Q : Exit → Act → World → Prop} (hgd : o.guard = none) (s x : Operand)
    (ho : o.op = .call { callee := .builtin .append, args := #[s, x], argTypes := #[31, 31] })
    (B : Nat) (v : Value) (os : List Value) (hs : a.eval s = v) (hown : w.ownsRow B 54 1 v os.length os) (u : Value) (k : Nat) (hk : k = w.heap.size) (hx : a.eval x = .slice (some ⟨k, 0, none⟩) 1 1) (hu : u.oneCell' = true)
    (hb : os.length ≤ 1073741824) (hbase : B ≤ w.heap.size)
    (h : ∀ v' w', w'.ownsRow B 54 1 v' (os.length + 1) (os ++ [u]) → (w.alloc (.cells #[u] 54)).grownBy w' v.ownBlock → (v'.ownBlock = v.ownBlock ∨ v'.ownBlock = some (w.heap.size + 1)) →
      wpList Try.prog ops Q rest (a.put o.dst v') w') : wpList Try.prog ops Q (o :: rest) a (w.alloc (.cells #[u] 54)) := by
  subst hk
  obtain ⟨i, hi, hz0, hz1, hz2⟩ := info_parts info_strs
  refine wpList_append_keeps hgd s x 31 ho B 54 i (.slice none 0 0) Try.underlying31 hi hz0 hz1 rfl v os.length os hs (hown.alloc _) (some ⟨w.heap.size, 0, none⟩) 1 1 [u] hx rfl (.inr (one_new w u _)) (by intro y hy; simp at hy; subst hy; exact hu) (by unfold maxLen; omega) (by rw [hz2]; omega) (by simp; omega) ?_
  intro v' w' h1 h2 _ h4 _
  exact h v' w' h1 h2 (by simpa using h4)

theorem one_of_own {w : World} {B : Nat} {v : Value} {l : List ByteArray} (h : OwnS w B v l) : v.oneCell' = true := by
  obtain ⟨a, c, rfl, _⟩ := h.shape
  rfl

set_option maxHeartbeats 2000000 in
set_option maxRecDepth 1000000 in
theorem keep_any (w : World) (B : Nat) (lab : Nat → Tag) (Hb sz : Nat) (ok : Nat → Nat → Prop) (es : List Ent) (a : Option Addr) (c : Nat) (l : List ByteArray) (hh : Held w B lab Hb (.int .i64 (sz : Int)) ok es) (hB : B ≤ w.heap.size)
    (hv : OwnS w B (.slice a l.length c) l) (ht : Tagged lab (.slice a l.length c) (.out es.length)) (hok : ok es.length es.length) (hl : l.length ≤ 8796093022208) (he : es.length ≤ 1073741824) (hsz : sz + l.length ≤ 4611686018427387904) :
    Calls Try.prog 33 #[.pointer (some ⟨Hb, 0, none⟩), .slice a l.length c] w fun e w' => e = .returned (.tuple #[]) ∧
      ∃ lab' cw, Held w' B lab' Hb (.int .i64 ((sz + l.length : Nat) : Int)) ok (es ++ [⟨.slice a l.length c, cw, l⟩]) ∧ (∀ k, k < w.heap.size → lab' k = lab k) ∧ Kept (Lists lab) w w' := by
  have HH : Hid (Held w B lab Hb (.int .i64 (sz : Int)) ok es) := hh
  have HV : Hid (OwnS w B (.slice a l.length c) l) := hv
  have HT : Hid (Tagged lab (.slice a l.length c) (.out es.length)) := ht
  have HOK : Hid (ok es.length es.length) := hok
  have his : IsStrs w a c l := by
    obtain ⟨a1, c1, h1, h2⟩ := hv.shape
    simp only [Value.slice.injEq] at h1
    obtain ⟨rfl, _, rfl⟩ := h1
    exact h2
  have IS : Hid (IsStrs w a c l) := his
  clear hh hv ht his hok
  have hlo : (es.map (·.out)).length ≤ 1073741824 := by simpa using he
  have hlw : (es.map (·.want)).length ≤ 1073741824 := by simpa using he
  go_enter Try.func33, Try.ntmps33
  go_upto_region 4 with (first
    | (refine wpList_appendS rfl (.tmp 6) (.tmp 7) rfl w.heap.size (.slice (some ⟨w.heap.size, 0, none⟩) 0 0) [] rfl (OwnS.lit w _ (Nat.le_refl _)) a c l rfl (IS.out.below ((Below.refl _ w).alloc (Nat.le_refl _) _)) (by simp; omega) (by simp) ?_
       intro cv0 w1 ownc0 hgr0 _ _ _
       obtain ⟨ac, cc, hcv0, _⟩ := ownc0.shape
       rw [List.nil_append] at hcv0
       subst hcv0
       have B1 : Below w.heap.size w w1 := ((Below.refl _ w).alloc (Nat.le_refl _) _).grown hgr0 (by simp) (fun k hk => by simp [Value.ownBlock] at hk; omega)
       have OC0 : Hid (OwnS w1 w.heap.size (.slice ac l.length cc) l) := ownc0
       have HB1 : Hid (Below w.heap.size w w1) := B1
       have hz1 := B1.size
       clear ownc0 hgr0 B1
       obtain ⟨lab1, hlab1⟩ : ∃ lab1 : Nat → Tag, lab1 = fun k => if k < w.heap.size then lab k else .want es.length := ⟨_, rfl⟩
       have hl1 : ∀ k, k < w.heap.size → lab1 k = lab k := fun k hk => by rw [hlab1]; simp [hk]
       have TC : Hid (Tagged lab1 (.slice ac l.length cc) (.want es.length)) := fun g hg => by have := (OC0.out.lt g hg).1; rw [hlab1]; simp only []; rw [if_neg (by omega)]
       have TV : Hid (Tagged lab1 (.slice a l.length c) (.out es.length)) := HT.out.congr HV.out hl1
       have HL1 : Hid (∀ k, k < w.heap.size → lab1 k = lab k) := hl1
       obtain ⟨vo, vw, hr, hes⟩ := (HH.out.relabel hl1).below HB1.out
       obtain ⟨ao, co, hvo, _⟩ := row_shape hr.2.2.2.1.1
       obtain ⟨aw, cv, hvw, _⟩ := row_shape hr.2.2.2.2.1
       rw [List.length_map] at hvo hvw
       subst hvo hvw
       have k0 := hr.cell0
       have HR : Hid (HRows w1 B lab1 Hb (.slice ao es.length co) (.slice aw es.length cv) (.int .i64 (sz : Int)) (es.map (·.out)) (es.map (·.want))) := hr
       have HES : Hid (Ents w1 B lab1 ok es) := hes
       have OV : Hid (OwnS w1 B (.slice a l.length c) l) := HV.out.below HB1.out
       have hBw : B ≤ w1.heap.size := by omega
       clear hr hes hl1 hlab1)
    | (refine wpList_push rfl (.tmp 13) (.tmp 15) rfl B (.slice ao es.length co) (es.map (·.out)) rfl HR.out.2.2.2.1.1 (.slice a l.length c) _ rfl rfl rfl hlo hBw ?_
       intro vo' w2 ho hgr hvb
       obtain ⟨ao', co', hvo', _⟩ := row_shape ho
       rw [List.length_map] at hvo'
       subst hvo'
       obtain ⟨c20, _, f20, _⟩ := box_cell ((HR.out.alloc (.cells #[.slice a l.length c] 54)).boxOut hgr)
       have HR3 : Hid (HRows (w2.setCell ⟨Hb, 0, none⟩ (.slice ao' (es.length + 1) co')) B (fun k => if k = (w1.alloc (.cells #[.slice a l.length c] 54)).heap.size then .outs else lab1 k) Hb (.slice ao' (es.length + 1) co') (.slice aw es.length cv) (.int .i64 (sz : Int)) (es.map (·.out) ++ [.slice a l.length c]) (es.map (·.want))) := ((HR.out.alloc (.cells #[.slice a l.length c] 54)).pushOut ho hgr (by simpa using hvb)).1
       obtain ⟨_, c21, _, _⟩ := box_cell HR3.out.1
       have hz2 := hgr.size)
    | (refine wpList_push rfl (.tmp 23) (.tmp 25) rfl B (.slice aw es.length cv) (es.map (·.want)) rfl HR3.out.2.2.2.2.1 (.slice ac l.length cc) _ (by simp) rfl rfl hlw (by simp at hz2 ⊢; omega) ?_
       intro vw' w4 ho4 hgr4 hvb4
       obtain ⟨aw', cv', hvw', _⟩ := row_shape ho4
       rw [List.length_map] at hvw'
       subst hvw'
       obtain ⟨_, c41, _, f41⟩ := box_cell ((HR3.out.alloc (.cells #[.slice ac l.length cc] 54)).boxWant hgr4)))
  obtain ⟨lab7, h7, l7, k7⟩ := Held.pushed (e := ⟨.slice a l.length c, .slice ac l.length cc, l⟩) HR.out HES.out ⟨⟨OV.out, fun g hg => ⟨_, TV.out g hg, HOK.out⟩⟩, ⟨OC0.out.mono hB, TC.out⟩⟩ (.cells #[.slice a l.length c] 54) (.cells #[.slice ac l.length cc] 54) ho hgr (by simpa using hvb) ho4 hgr4 (by simpa using hvb4)
  obtain ⟨W8, hW8⟩ : ∃ W8, W8 = w4.setCell ⟨Hb, 1, none⟩ (.slice aw' (es.length + 1) cv') := ⟨_, rfl⟩
  rw [← hW8] at h7 k7 ⊢
  have H8 : Hid (Held W8 B lab7 Hb (.int .i64 (sz : Int)) ok (es ++ [⟨.slice a l.length c, .slice ac l.length cc, l⟩]) ∧ (∀ k, k < w1.heap.size → lab7 k = lab1 k) ∧ Kept (Lists lab1) w1 W8) := ⟨h7, l7, k7⟩
  obtain ⟨z2, z3, z4⟩ : W8.cell? ⟨Hb, 2, none⟩ = some (.int .i64 (sz : Int)) ∧ W8.frozen? ⟨Hb, 2, none⟩ = false ∧ Hb < W8.heap.size := by
    obtain ⟨vo, vw, hr, _⟩ := h7
    exact ⟨by simp [World.cell?, hr.1], hr.frozen 2, hr.lt⟩
  have hsl : ((sz + l.length : Nat) : Int) = (sz : Int) + (l.length : Int) := by omega
  have hfr := H8.out.1.fresh (.int .i64 ((sz : Int) + (l.length : Int)))
  have HFR : Hid (_ ∧ _) := hfr
  clear hW8 h7 l7 k7 hfr ho hgr hvb ho4 hgr4 hvb4 c41 f41 c20 f20 c21 k0
  go_wp2_with fail
  go_end0
  refine ⟨rfl, lab7, .slice ac l.length cc, by rw [hsl]; exact HFR.out.1, fun k hk => (H8.out.2.1 k (by omega)).trans (HL1.out k hk), (Kept.ofBelow HB1.out : Kept (Lists lab) w _).step (H8.out.2.2.step HFR.out.2 (fun k hk h => ?_)) (fun k hk h => ?_)⟩
  · unfold Lists at h ⊢
    rwa [H8.out.2.1 k hk] at h
  · unfold Lists at h ⊢
    rwa [HL1.out k hk] at h
end Go.Proofs.Ythjaehibndmehaa
