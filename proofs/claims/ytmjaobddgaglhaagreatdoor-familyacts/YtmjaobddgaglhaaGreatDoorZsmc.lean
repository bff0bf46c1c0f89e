import Derived.Test.YtmjaobddgaglhaaGreatDoorZrbb
import Derived.Test.YtmjaobddgaglhaaGreatDoorZrgpr
import Derived.Test.YtmjaobddgaglhaaGreatDoorZfde
import Derived.Test.YtmjaobddgaglhaaGreatDoorZdetl
import Derived.Deep.Cut
import Derived.Deep.CutRange
import Derived.Test.YtmjaobddgaglhaaGreatDoorZscb
import Derived.Test.YtmjaobddgaglhaaGreatDoorEnda
import Derived.Test.YtmjaobddgaglhaaGreatDoorZprd
import Derived.Test.YtmjaobddgaglhaaGreatDoorZprf
import Derived.Test.YtmjaobddgaglhaaGreatDoorZprg
import Derived.Test.YtmjaobddgaglhaaGreatDoorLyf
import Derived.Deep.QuietTactic
import Derived.BigQuiet
import Derived.Test.YtmjaobddgaglhaaGreatDoorZscf
import Derived.Lib.CutLaws
import Derived.Test.YtmjaobddgaglhaaGreatDoorZdsa
import Derived.Laws.CopyRow
import Derived.Laws.MakeOwn
import Derived.Lib.BufSteps
namespace Go.Proofs.YtmjaobddgaglhaaGreatDoor
open Go.RowKit
set_option maxHeartbeats 8000000
set_option maxRecDepth 20000
/-- Rows that are kept. -/
def Kpr (l : List (Nat × Array Value × TypeId)) (W : World) : Prop := ∀ q, q ∈ l → W.heap[q.1]? = some (.cells q.2.1 q.2.2 (0, 0))
theorem Kpr.below {l : List (Nat × Array Value × TypeId)} {W W' : World} (h : Kpr l W) (hb : Below W.heap.size W W') : Kpr l W' := fun q hq => (hb.block _ (lt_of_row (h q hq))).trans (h q hq)
theorem Kpr.add {l : List (Nat × Array Value × TypeId)} {W : World} (h : Kpr l W) (cs : Array Value) (ty : TypeId) : Kpr ((W.heap.size, cs, ty) :: l) (W.alloc (.cells cs ty)) := fun q hq => by
  rcases List.mem_cons.1 hq with rfl | hq
  · exact heap_alloc_new _ _
  · exact (((Below.refl _ W).alloc (Nat.le_refl _) (.cells cs ty)).block _ (lt_of_row (h q hq))).trans (h q hq)
theorem Kpr.tail {a : Nat × Array Value × TypeId} {l : List (Nat × Array Value × TypeId)} {W : World} (h : Kpr (a :: l) W) : Kpr l W := fun q hq => h q (List.mem_cons_of_mem _ hq)
theorem Kpr.r0 {a : Nat × Array Value × TypeId} {l : List (Nat × Array Value × TypeId)} {W : World} (h : Kpr (a :: l) W) : W.heap[a.1]? = some (.cells a.2.1 a.2.2 (0, 0)) := h a (List.mem_cons_self ..)
end Go.Proofs.YtmjaobddgaglhaaGreatDoor
namespace Go.Proofs.YtmjaobddgaglhaaGreatDoor
open Go.RowKit Go.Lib
theorem run_geq (x y : Bs) (W : World) : (binOp .geq 9 (S x) (S y)).run Tryz.prog W = .ok (.bool (decide (¬ x < y))) W := by
  have e : (!Op.bytesLess (ByteArray.mk x.toArray).toList (ByteArray.mk y.toArray).toList) = decide (¬ x < y) := by
    have e1 : ∀ z : Bs, (ByteArray.mk z.toArray).toList = z := fun z => by simp [ByteArray.toList_eq]
    rw [e1, e1, less_eq, Bool.eq_iff_iff]
    simp only [Bool.not_eq_true', decide_eq_false_iff_not, decide_eq_true_eq]
  rw [← e]
  rfl
theorem tl17 : ∀ {l : List Bs}, (∀ x ∈ l, nm x = true) → (tl l).length ≤ 17 * l.length
  | [], _ => by simp [tl]
  | a :: r, h => by
    have h1 := tl17 (l := r) (fun x hx => h x (List.mem_cons_of_mem _ hx))
    have h2 : a.length ≤ 16 := by
      have := h a (List.mem_cons_self ..)
      simp [nm] at this
      exact this.1.2
    simp [tl]
    omega
theorem tx17 {l : List Bs} (h : okl l = true) : (tx l).length ≤ 17 * l.length := by
  have := tl17 (okl_iff.1 h).1
  have e := tx_tl l
  omega
theorem right_okl (l : List Bs) : right l = (okl l && !many l) := by
  unfold right
  rw [wr_eq]
  unfold tm
  cases okl l <;> cases many l <;> rfl
theorem bel_q {B : Nat} {w wr : World} (h : Below B w wr) (q : Nat) : Below B w (wr.drewN q) := h.trans ⟨rfl, rfl, rfl, Nat.le_refl _, fun _ _ => rfl⟩
set_option maxHeartbeats 8000000 in
set_option maxRecDepth 8000 in
theorem rScope139 (a : Option Addr) (n cap : Nat) (l : List Bs) (w : World) (hp : Sts w a n l) (hn : n ≤ 140737488355000) (hL : Lns l) :
    Calls Tryz.prog 55 #[.slice a n cap] w fun e w' => e = .returned (.bool (right l)) ∧ Below w.heap.size w w' := by
  have HP := hide hp
  have HN := hide hp.1
  have HL := hide hL
  have HRE := hide (right_okl l)
  clear hp hL
  generalize right l = RR at *
  go_enter Tryz.func55, Tryz.ntmps55
  go_wp2
  go_loopw [3, 4] (fun a9 i wr => ∃ k : Nat, k ≤ n ∧ i = .int .i64 k ∧ a9 = .int .i64 ((tx (l.take k)).length : Nat) ∧ okl (l.take k) = true ∧ Below w.heap.size w wr) (fun _ i _ => n - (Go.RowKit.intOf i).toNat)
  case atStart => exact ⟨0, by omega, rfl, rfl, rfl, Below.refl _ _⟩
  case round =>
    obtain ⟨k, hk, rfl, rfl, hok, hbr⟩ := hrel
    have hb17 := tx17 hok
    rw [List.length_take, Nat.min_eq_left (by have := unhide HN; omega)] at hb17
    by_cases hlt : k < n
    · obtain ⟨p, o, rfl, hpl, hc0⟩ := ((unhide HP).below hbr).at hlt
      have hkl : k < l.length := by have := unhide HN; omega
      have HOK := hide hok
      have hlt' : (k : Int) < (n : Int) := by omega
      have HNM := hide (refName_any (l.getD k []) wr (unhide HL k))
      have HNO := hide (okl_nm k hkl)
      have HST := hide (okl_step k hkl hok)
      have HB := hide hbr
      have HQ : Hid (nm (l.getD k []) = true → (l.getD k []).length ≤ 16) := hide (fun h => by simp [nm] at h; exact h.1.2)
      clear hok
      by_cases h0 : k = 0
      · subst h0
        have HT := hide (tx_first l hkl)
        rw [Nat.add_zero] at hc0
        generalize l.getD 0 [] = x at *
        cases hx : nm x
        · rw [hx] at HNM
          have HR := hide (show RR = false by rw [unhide HRE, unhide HNO hx]; rfl)
          clear HNO HST HOK hx hbr HT HQ
          go_wp2_with (first | (go_at_call 54; refine (unhide HNM).mono ?_; rintro e w2 ⟨rfl, rfl⟩) | fail)
          go_quiet (fail)
          have HB2 := hide (bel_q (unhide HB) nq)
          generalize w2.drewN nq = wv at *
          go_wp2
          go_ret
          exact ⟨by rw [unhide HR]; rfl, unhide HB2⟩
        · rw [hx] at HNM
          have HR := hide (unhide HST hx (fun h => absurd h (Nat.lt_irrefl 0)))
          have hl16 := unhide HQ hx
          clear HNO HST HOK hx hbr HQ
          go_wp2_with (first | (go_at_call 54; refine (unhide HNM).mono ?_; rintro e w2 ⟨rfl, rfl⟩) | fail)
          go_quiet (fail)
          have HB2 := hide (bel_q (unhide HB) nq)
          have hc0' : (w2.drewN nq).cell? ⟨p, o, none⟩ = some (S x) := hc0
          generalize w2.drewN nq = wv at *
          go_wp2
          refine ⟨⟨1, by omega, by go_num, ?_, unhide HR, unhide HB2⟩, by simp [Go.RowKit.intOf]; omega⟩
          rw [unhide HT]
          simp [tx]
          exact IntWalk.wrap64_in _ (by omega)
      · obtain ⟨k, rfl⟩ : ∃ m, k = m + 1 := ⟨k - 1, by omega⟩
        have h0' : decide ((0 : Int) < ((k + 1 : Nat) : Int)) = true := by rw [decide_eq_true_eq]; omega
        obtain ⟨p', o', e1, _, hc1⟩ := ((unhide HP).below hbr).at (show k < n by omega)
        cases e1
        have HUP := hide (okl_up (k + 1) hkl (by omega))
        have HT := hide (tx_step l (k + 1) hkl (by omega))
        rw [Nat.add_sub_cancel] at HUP HST
        generalize l.getD (k + 1) [] = x at *
        generalize l.getD k [] = y at *
        cases hx : nm x
        · rw [hx] at HNM
          have HR := hide (show RR = false by rw [unhide HRE, unhide HNO hx]; rfl)
          clear HNO HST HOK hx HUP hbr HT HQ
          go_wp2_with (first | (go_at_call 54; refine (unhide HNM).mono ?_; rintro e w2 ⟨rfl, rfl⟩) | fail)
          go_quiet (fail)
          have HB2 := hide (bel_q (unhide HB) nq)
          generalize w2.drewN nq = wv at *
          go_wp2
          go_ret
          exact ⟨by rw [unhide HR]; rfl, unhide HB2⟩
        · rw [hx] at HNM
          have HR := hide (unhide HST hx)
          have hl16 := unhide HQ hx
          have hq : ∀ W, (binOp .geq 9 (S y) (S x)).run Tryz.prog W = .ok (.bool (decide (¬ y < x))) W := run_geq y x
          clear HNO HST HOK hx hbr HQ
          by_cases hxy : y < x
          · rw [show decide (¬ y < x) = false by simp [hxy]] at hq
            have HR2 := hide (unhide HR (fun _ => hxy))
            clear HR HUP hxy
            go_wp2_with (first | (go_at_call 54; refine (unhide HNM).mono ?_; rintro e w2 ⟨rfl, rfl⟩) | fail)
            go_quiet (fail)
            have HB2 := hide (bel_q (unhide HB) nq)
            have hc0' : (w2.drewN nq).cell? ⟨p, o + (k + 1), none⟩ = some (S x) := hc0
            generalize w2.drewN nq = wv at *
            go_wp2
            refine ⟨⟨k + 1 + 1, by omega, by go_num, ?_, unhide HR2, unhide HB2⟩, by simp [Go.RowKit.intOf]; omega⟩
            rw [unhide HT]
            simp
            omega
          · rw [show decide (¬ y < x) = true by simp [hxy]] at hq
            have HR2 := hide (show RR = false by rw [unhide HRE, unhide HUP hxy]; rfl)
            clear HR HUP hxy HT
            go_wp2_with (first | (go_at_call 54; refine (unhide HNM).mono ?_; rintro e w2 ⟨rfl, rfl⟩) | fail)
            go_quiet (fail)
            have HB2 := hide (bel_q (unhide HB) nq)
            generalize w2.drewN nq = wv at *
            go_wp2
            go_ret
            exact ⟨by rw [unhide HR2]; rfl, unhide HB2⟩
    · have hd : ¬ (k : Int) < (n : Int) := by omega
      have e : l.take k = l := List.take_of_length_le (by have := unhide HN; omega)
      rw [e] at hok hb17 ⊢
      have HM : Hid (RR = (decide (n ≤ 8) && decide ((tx l).length ≤ 60))) := hide (by
        rw [unhide HRE, hok, Bool.true_and]
        unfold many
        have := unhide HN
        rw [Bool.eq_iff_iff]
        simp
        omega)
      have HB := hide hbr
      clear hok e hbr
      generalize (tx l).length = m at *
      by_cases h8 : n ≤ 8
      · have h8' : (n : Int) ≤ 8 := by omega
        go_wp2
        go_ret
        exact ⟨ret_bool (by rw [unhide HM, Bool.eq_iff_iff]; simp [h8]; omega), unhide HB⟩
      · have h8' : ¬ (n : Int) ≤ 8 := by omega
        go_wp2
        go_ret
        exact ⟨ret_bool (by rw [unhide HM]; simp [h8]), unhide HB⟩
end Go.Proofs.YtmjaobddgaglhaaGreatDoor
namespace Go.Proofs.YtmjaobddgaglhaaGreatDoor
open Go.RowKit Go.Lib
/-- One more text at the end of a row of one's own. -/
theorem pushS {ops : Array Oper} {rest : List Oper} {o : Oper} {a : Act} {w : World} {Q : Exit → Act → World → Prop} (hgd : o.guard = none) (s x : Operand)
    (ho : o.op = .call { callee := .builtin .append, args := #[s, x], argTypes := #[22, 22] }) (B : Nat) (v : Value) (l : List Bs) (hs : a.eval s = v) (w0 : World) (hown : OwnS B w0 v l) (y : Bs) (hw : w = w0.alloc (.cells #[S y] 9)) (hx : a.eval x = .slice (some ⟨w0.heap.size, 0, none⟩) 1 1) (hn : l.length ≤ 1000000000000) (hB : B ≤ w0.heap.size)
    (h : ∀ v' w', OwnS B w' v' (l ++ [y]) → (∀ b w1, b ≤ B → Below b w1 w0 → Below b w1 w') → wpList Tryz.prog ops Q rest (a.put o.dst v') w') : wpList Tryz.prog ops Q (o :: rest) a w := by
  subst hw
  obtain ⟨i0, hi, hz0, hz1, hz2⟩ := info_parts info9
  refine wpList_append_own _ hgd s x 22 ho B 9 i0 (.string ⟨#[]⟩) 1 16 Tryz.underlying22 hi hz0 hz1 hz2 rfl (by decide) v l.length (l.map encStr) hs (World.ownsRow.alloc hown _) ⟨w0.heap.size, 0, none⟩ 1 1 [S y] hx rfl (cell_one_new _ _ _) (by intro u hu; simp at hu; subst hu; rfl) (by unfold maxLen; omega) (by omega) (by simp; omega) ?_
  intro v' w' ho' hg' _
  refine h v' w' ?_ ?_
  · unfold OwnS
    simpa using ho'
  · intro b w1 hb hbel
    have hs : b ≤ w0.heap.size := by omega
    refine (hbel.alloc hs _).grown hg' (by simp; omega) (fun j hj => ?_)
    have := (World.ownsRow.lt (World.ownsRow.alloc hown (.cells #[S y] 9)) j hj).1
    omega
end Go.Proofs.YtmjaobddgaglhaaGreatDoor
namespace Go.Proofs.YtmjaobddgaglhaaGreatDoor
open Go.RowKit Go.Lib
set_option maxHeartbeats 4000000
set_option maxRecDepth 8000
def fgA (co : Int) : Bool := decide (0 ≤ co) && decide (co ≤ 4611686018427387904)
def fgB (cr us idl ab : Int) : Bool := decide (cr ≤ us) && (spn idl && spn ab)
def fgC (ge st : Int) : Bool := gnr ge && (decide (1 ≤ st) && decide (st ≤ 4))
def fgD (us st en : Int) : Bool := if st == 1 then en == 0 else decide (us ≤ en)
theorem famN (id9 : Int) (cl su : Bs) (sc : List Bs) (cr us idl ab gr ge tk9 st en co : Int) : famOK id9 cl su sc cr us idl ab gr ge tk9 st en co = (idn id9 && (idn tk9 && (nm cl && (nm su && (right sc && (fgA co && (tim cr && (tim us && (tim gr && (tim en && (fgB cr us idl ab && (fgC ge st && fgD us st en)))))))))))) := by
  have e1 : (co == 0 || idn co) = fgA co := by
    rw [Bool.eq_iff_iff]
    simp only [idn, fgA, Bool.or_eq_true, beq_iff_eq, Bool.and_eq_true, decide_eq_true_eq]
    omega
  have e2 : staOK us st en = (tim en && (decide (1 ≤ st) && decide (st ≤ 4)) && fgD us st en) := by
    unfold staOK fgD
    by_cases h1 : st = 1
    · subst h1
      by_cases h2 : en = 0
      · subst h2; simp [tim]
      · simp [h2]
    · by_cases h2 : st = 2
      · subst h2; simp
      · by_cases h3 : st = 3
        · subst h3; simp
        · by_cases h4 : st = 4
          · subst h4; simp
          · have : (decide (1 ≤ st) && decide (st ≤ 4)) = false := by
              rw [Bool.eq_false_iff]
              simp
              omega
            rw [this]
            simp [h1, h2, h3, h4]
  unfold famOK
  rw [right_nm, right_nm, e1, e2]
  unfold fgB fgC
  generalize fgA co = a1
  generalize fgD us st en = a2
  generalize (decide (1 ≤ st) && decide (st ≤ 4)) = a3
  cases idn id9 <;> cases idn tk9 <;> cases nm cl <;> cases nm su <;> cases right sc <;> cases a1 <;> cases tim cr <;> cases tim us <;> cases tim gr <;> cases tim en <;> simp <;> cases decide (cr ≤ us) <;> cases spn idl <;> cases spn ab <;> cases gnr ge <;> cases a3 <;> cases a2 <;> rfl
theorem fgAN (co : Int) : (!fgA co) = (decide (co < 0) || decide (4611686018427387904 < co)) := by
  rw [Bool.eq_iff_iff]; unfold fgA; simp <;> omega
theorem fgBN (cr us idl ab : Int) : (!fgB cr us idl ab) = (decide (us < cr) || decide (idl < 1) || decide (1099511627776 < idl) || decide (ab < 1) || decide (1099511627776 < ab)) := by
  rw [Bool.eq_iff_iff]; unfold fgB spn; simp <;> omega
theorem fgCN (ge st : Int) : (!fgC ge st) = (decide (ge < 1) || decide (1073741824 < ge) || decide (st < 1) || decide (4 < st)) := by
  rw [Bool.eq_iff_iff]; unfold fgC gnr; simp <;> omega
theorem rMay75 (id9 : Int) (cl su : Bs) (va : Option Addr) (vc : Nat) (sc : List Bs) (cr us idl ab gr ge tk9 st en co : Int) (w : World) (hcl : cl.length ≤ 9223372036854775807) (hsu : su.length ≤ 9223372036854775807) (hsc : Sts w va sc.length sc) (hsl : sc.length ≤ 140737488355000) (hln : Lns sc) : Calls Tryz.prog 35 #[.agg #[I id9, S cl, S su, .slice va sc.length vc, I cr, I us, I idl, I ab, I gr, I ge, I tk9, I st, I en, I co]] w fun e w' => e = .returned (.bool (famOK id9 cl su sc cr us idl ab gr ge tk9 st en co)) ∧ Below w.heap.size w w' := by
  have hB0 : Below w.heap.size w (w.alloc (.cells #[I id9, S cl, S su, .slice va sc.length vc, I cr, I us, I idl, I ab, I gr, I ge, I tk9, I st, I en, I co] 24)) := (Below.refl _ w).alloc (Nat.le_refl _) _
  have hT := heap_alloc_new w (.cells #[I id9, S cl, S su, .slice va sc.length vc, I cr, I us, I idl, I ab, I gr, I ge, I tk9, I st, I en, I co] 24)
  have c0 : (w.alloc (.cells #[I id9, S cl, S su, .slice va sc.length vc, I cr, I us, I idl, I ab, I gr, I ge, I tk9, I st, I en, I co] 24)).cell? ⟨w.heap.size, 0, none⟩ = some (I id9) := cellr hT rfl
  have c1 : (w.alloc (.cells #[I id9, S cl, S su, .slice va sc.length vc, I cr, I us, I idl, I ab, I gr, I ge, I tk9, I st, I en, I co] 24)).cell? ⟨w.heap.size, 1, none⟩ = some (S cl) := cellr hT rfl
  have c2 : (w.alloc (.cells #[I id9, S cl, S su, .slice va sc.length vc, I cr, I us, I idl, I ab, I gr, I ge, I tk9, I st, I en, I co] 24)).cell? ⟨w.heap.size, 2, none⟩ = some (S su) := cellr hT rfl
  have c3 : (w.alloc (.cells #[I id9, S cl, S su, .slice va sc.length vc, I cr, I us, I idl, I ab, I gr, I ge, I tk9, I st, I en, I co] 24)).cell? ⟨w.heap.size, 3, none⟩ = some (.slice va sc.length vc) := cellr hT rfl
  have c4 : (w.alloc (.cells #[I id9, S cl, S su, .slice va sc.length vc, I cr, I us, I idl, I ab, I gr, I ge, I tk9, I st, I en, I co] 24)).cell? ⟨w.heap.size, 4, none⟩ = some (I cr) := cellr hT rfl
  have c5 : (w.alloc (.cells #[I id9, S cl, S su, .slice va sc.length vc, I cr, I us, I idl, I ab, I gr, I ge, I tk9, I st, I en, I co] 24)).cell? ⟨w.heap.size, 5, none⟩ = some (I us) := cellr hT rfl
  have c6 : (w.alloc (.cells #[I id9, S cl, S su, .slice va sc.length vc, I cr, I us, I idl, I ab, I gr, I ge, I tk9, I st, I en, I co] 24)).cell? ⟨w.heap.size, 6, none⟩ = some (I idl) := cellr hT rfl
  have c7 : (w.alloc (.cells #[I id9, S cl, S su, .slice va sc.length vc, I cr, I us, I idl, I ab, I gr, I ge, I tk9, I st, I en, I co] 24)).cell? ⟨w.heap.size, 7, none⟩ = some (I ab) := cellr hT rfl
  have c8 : (w.alloc (.cells #[I id9, S cl, S su, .slice va sc.length vc, I cr, I us, I idl, I ab, I gr, I ge, I tk9, I st, I en, I co] 24)).cell? ⟨w.heap.size, 8, none⟩ = some (I gr) := cellr hT rfl
  have c9 : (w.alloc (.cells #[I id9, S cl, S su, .slice va sc.length vc, I cr, I us, I idl, I ab, I gr, I ge, I tk9, I st, I en, I co] 24)).cell? ⟨w.heap.size, 9, none⟩ = some (I ge) := cellr hT rfl
  have c10 : (w.alloc (.cells #[I id9, S cl, S su, .slice va sc.length vc, I cr, I us, I idl, I ab, I gr, I ge, I tk9, I st, I en, I co] 24)).cell? ⟨w.heap.size, 10, none⟩ = some (I tk9) := cellr hT rfl
  have c11 : (w.alloc (.cells #[I id9, S cl, S su, .slice va sc.length vc, I cr, I us, I idl, I ab, I gr, I ge, I tk9, I st, I en, I co] 24)).cell? ⟨w.heap.size, 11, none⟩ = some (I st) := cellr hT rfl
  have c12 : (w.alloc (.cells #[I id9, S cl, S su, .slice va sc.length vc, I cr, I us, I idl, I ab, I gr, I ge, I tk9, I st, I en, I co] 24)).cell? ⟨w.heap.size, 12, none⟩ = some (I en) := cellr hT rfl
  have c13 : (w.alloc (.cells #[I id9, S cl, S su, .slice va sc.length vc, I cr, I us, I idl, I ab, I gr, I ge, I tk9, I st, I en, I co] 24)).cell? ⟨w.heap.size, 13, none⟩ = some (I co) := cellr hT rfl
  have XS := hide (rScope139 va sc.length vc sc (w.alloc (.cells #[I id9, S cl, S su, .slice va sc.length vc, I cr, I us, I idl, I ab, I gr, I ge, I tk9, I st, I en, I co] 24)) (hsc.bel hB0) hsl hln)
  generalize hW1 : (w.alloc (.cells #[I id9, S cl, S su, .slice va sc.length vc, I cr, I us, I idl, I ab, I gr, I ge, I tk9, I st, I en, I co] 24)) = W1 at *
  have HB := hide hB0
  have HT := hide hT
  clear hB0 hT hsc hsl hln
  have HKE := hide (famN id9 cl su sc cr us idl ab gr ge tk9 st en co)
  have HGA := hide (fgAN co)
  have HGB := hide (fgBN cr us idl ab)
  have HGC := hide (fgCN ge st)
  have HGD := hide (show fgD us st en = if st == 1 then en == 0 else decide (us ≤ en) from rfl)
  have XC0 := hide (fun W => rId_any id9 W)
  have XC1 := hide (fun W => rId_any tk9 W)
  have XC2 := hide (fun W => refName_any cl W hcl)
  have XC3 := hide (fun W => refName_any su W hsu)
  have XC5 := hide (fun W => rTime_any cr W)
  have XC6 := hide (fun W => rTime_any us W)
  have XC7 := hide (fun W => rTime_any gr W)
  have XC8 := hide (fun W => rTime_any en W)
  clear hcl hsu
  generalize famOK id9 cl su sc cr us idl ab gr ge tk9 st en co = R at *
  generalize fgA co = gA at *
  generalize fgB cr us idl ab = gB at *
  generalize fgC ge st = gC at *
  generalize fgD us st en = gD at *
  generalize idn id9 = b0 at *
  generalize idn tk9 = b1 at *
  generalize nm cl = b2 at *
  generalize nm su = b3 at *
  generalize right sc = b4 at *
  generalize tim cr = b5 at *
  generalize tim us = b6 at *
  generalize tim gr = b7 at *
  generalize tim en = b8 at *
  go_enter Tryz.func35, Tryz.ntmps35
  go_wp2_with fail
  refine (unhide XC0 W1).mono ?_
  rintro e w9 ⟨rfl, hw9⟩
  rw [hw9]
  clear hw9 w9 XC0
  go_wp2_with fail
  refine (unhide XC1 W1).mono ?_
  rintro e w9 ⟨rfl, hw9⟩
  rw [hw9]
  clear hw9 w9 XC1
  go_wp2_with fail
  refine (unhide XC2 W1).mono ?_
  rintro e w9 ⟨rfl, hw9⟩
  rw [hw9]
  clear hw9 w9 XC2
  go_wp2_with fail
  refine (unhide XC3 W1).mono ?_
  rintro e w9 ⟨rfl, hw9⟩
  rw [hw9]
  clear hw9 w9 XC3
  go_wp2_with fail
  refine (unhide XS).mono ?_
  rintro e W2 ⟨rfl, hb⟩
  have HB2 := hide ((unhide HB).trans (hb.mono (unhide HB).size))
  have HT2 := hide ((hb.block _ (lt_of_row (unhide HT))).trans (unhide HT))
  clear hb XS HB HT hW1 c0 c1 c2 c3 c4 c5 c6 c7 c8 c9 c10 c11 c12 c13
  have c0 : W2.cell? ⟨w.heap.size, 0, none⟩ = some (I id9) := cellr (unhide HT2) rfl
  have c1 : W2.cell? ⟨w.heap.size, 1, none⟩ = some (S cl) := cellr (unhide HT2) rfl
  have c2 : W2.cell? ⟨w.heap.size, 2, none⟩ = some (S su) := cellr (unhide HT2) rfl
  have c3 : W2.cell? ⟨w.heap.size, 3, none⟩ = some (.slice va sc.length vc) := cellr (unhide HT2) rfl
  have c4 : W2.cell? ⟨w.heap.size, 4, none⟩ = some (I cr) := cellr (unhide HT2) rfl
  have c5 : W2.cell? ⟨w.heap.size, 5, none⟩ = some (I us) := cellr (unhide HT2) rfl
  have c6 : W2.cell? ⟨w.heap.size, 6, none⟩ = some (I idl) := cellr (unhide HT2) rfl
  have c7 : W2.cell? ⟨w.heap.size, 7, none⟩ = some (I ab) := cellr (unhide HT2) rfl
  have c8 : W2.cell? ⟨w.heap.size, 8, none⟩ = some (I gr) := cellr (unhide HT2) rfl
  have c9 : W2.cell? ⟨w.heap.size, 9, none⟩ = some (I ge) := cellr (unhide HT2) rfl
  have c10 : W2.cell? ⟨w.heap.size, 10, none⟩ = some (I tk9) := cellr (unhide HT2) rfl
  have c11 : W2.cell? ⟨w.heap.size, 11, none⟩ = some (I st) := cellr (unhide HT2) rfl
  have c12 : W2.cell? ⟨w.heap.size, 12, none⟩ = some (I en) := cellr (unhide HT2) rfl
  have c13 : W2.cell? ⟨w.heap.size, 13, none⟩ = some (I co) := cellr (unhide HT2) rfl
  go_upto_region 6 with fail
  go_cut [54] from 27 to 54 (fun v wc => v = .bool (!(b0 && (b1 && (b2 && (b3 && (b4 && (gA))))))) ∧ wc = W2)
  case first =>
    clear HKE HB2 HT2 HGB HGC HGD XC5 XC6 XC7 XC8
    cases b0
    · clear HGA
      go_wp2
      go_meet
      exact ⟨rfl, rfl⟩
    cases b1
    · clear HGA
      go_wp2
      go_meet
      exact ⟨rfl, rfl⟩
    cases b2
    · clear HGA
      go_wp2
      go_meet
      exact ⟨rfl, rfl⟩
    cases b3
    · clear HGA
      go_wp2
      go_meet
      exact ⟨rfl, rfl⟩
    cases b4
    · clear HGA
      go_wp2
      go_meet
      exact ⟨rfl, rfl⟩
    by_cases h0 : co < 0
    · have HV := hide (show true = !gA by rw [unhide HGA]; simp [h0])
      clear HGA
      go_wp2
      go_meet
      exact ⟨congrArg Value.bool (unhide HV), rfl⟩
    by_cases h1 : 4611686018427387904 < co
    · have HV := hide (show true = !gA by rw [unhide HGA]; simp [h1])
      clear HGA
      go_wp2
      go_meet
      exact ⟨congrArg Value.bool (unhide HV), rfl⟩
    have HV := hide (show false = !gA by rw [unhide HGA]; simp [h0, h1])
    clear HGA
    go_wp2
    go_meet
    exact ⟨congrArg Value.bool (unhide HV), rfl⟩
  case rest =>
  obtain ⟨rfl, hwc⟩ := hcut
  rw [hwc]
  clear hwc HGA
  cases hc : (b0 && (b1 && (b2 && (b3 && (b4 && (gA))))))
  · have HR : Hid (R = false) := hide (by rw [unhide HKE, ← Bool.and_assoc b4, ← Bool.and_assoc b3, ← Bool.and_assoc b2, ← Bool.and_assoc b1, ← Bool.and_assoc b0, hc]; rfl)
    clear HKE hc HGB HGC HGD XC5 XC6 XC7 XC8
    go_wp2
    go_ret
    exact ⟨ret_bool (unhide HR).symm, unhide HB2⟩
  have HKE2 : Hid (R = (b5 && (b6 && (b7 && (b8 && (gB && (gC && gD))))))) := hide (by rw [unhide HKE, ← Bool.and_assoc b4, ← Bool.and_assoc b3, ← Bool.and_assoc b2, ← Bool.and_assoc b1, ← Bool.and_assoc b0, hc]; rfl)
  clear HKE hc
  have HKE := hide (unhide HKE2)
  clear HKE2
  go_wp2_with fail
  refine (unhide XC5 W2).mono ?_
  rintro e w9 ⟨rfl, hw9⟩
  rw [hw9]
  clear hw9 w9 XC5
  go_wp2_with fail
  refine (unhide XC6 W2).mono ?_
  rintro e w9 ⟨rfl, hw9⟩
  rw [hw9]
  clear hw9 w9 XC6
  go_wp2_with fail
  refine (unhide XC7 W2).mono ?_
  rintro e w9 ⟨rfl, hw9⟩
  rw [hw9]
  clear hw9 w9 XC7
  go_wp2_with fail
  refine (unhide XC8 W2).mono ?_
  rintro e w9 ⟨rfl, hw9⟩
  rw [hw9]
  clear hw9 w9 XC8
  go_upto_region 12 with fail
  go_cut [107] from 67 to 107 (fun v wc => v = .bool (!(b5 && (b6 && (b7 && (b8 && (gB)))))) ∧ wc = W2)
  case first =>
    clear HKE HB2 HT2 HGC HGD
    cases b5
    · clear HGB
      go_wp2
      go_meet
      exact ⟨rfl, rfl⟩
    cases b6
    · clear HGB
      go_wp2
      go_meet
      exact ⟨rfl, rfl⟩
    cases b7
    · clear HGB
      go_wp2
      go_meet
      exact ⟨rfl, rfl⟩
    cases b8
    · clear HGB
      go_wp2
      go_meet
      exact ⟨rfl, rfl⟩
    by_cases h0 : us < cr
    · have HV := hide (show true = !gB by rw [unhide HGB]; simp [h0])
      clear HGB
      go_wp2
      go_meet
      exact ⟨congrArg Value.bool (unhide HV), rfl⟩
    by_cases h1 : idl < 1
    · have HV := hide (show true = !gB by rw [unhide HGB]; simp [h1])
      clear HGB
      go_wp2
      go_meet
      exact ⟨congrArg Value.bool (unhide HV), rfl⟩
    by_cases h2 : 1099511627776 < idl
    · have HV := hide (show true = !gB by rw [unhide HGB]; simp [h2])
      clear HGB
      go_wp2
      go_meet
      exact ⟨congrArg Value.bool (unhide HV), rfl⟩
    by_cases h3 : ab < 1
    · have HV := hide (show true = !gB by rw [unhide HGB]; simp [h3])
      clear HGB
      go_wp2
      go_meet
      exact ⟨congrArg Value.bool (unhide HV), rfl⟩
    by_cases h4 : 1099511627776 < ab
    · have HV := hide (show true = !gB by rw [unhide HGB]; simp [h4])
      clear HGB
      go_wp2
      go_meet
      exact ⟨congrArg Value.bool (unhide HV), rfl⟩
    have HV := hide (show false = !gB by rw [unhide HGB]; simp [h0, h1, h2, h3, h4])
    clear HGB
    go_wp2
    go_meet
    exact ⟨congrArg Value.bool (unhide HV), rfl⟩
  case rest =>
  obtain ⟨rfl, hwc⟩ := hcut
  rw [hwc]
  clear hwc HGB
  cases hc : (b5 && (b6 && (b7 && (b8 && (gB)))))
  · have HR : Hid (R = false) := hide (by rw [unhide HKE, ← Bool.and_assoc b8, ← Bool.and_assoc b7, ← Bool.and_assoc b6, ← Bool.and_assoc b5, hc]; rfl)
    clear HKE hc HGC HGD
    go_wp2
    go_ret
    exact ⟨ret_bool (unhide HR).symm, unhide HB2⟩
  have HKE2 : Hid (R = (gC && gD)) := hide (by rw [unhide HKE, ← Bool.and_assoc b8, ← Bool.and_assoc b7, ← Bool.and_assoc b6, ← Bool.and_assoc b5, hc]; rfl)
  clear HKE hc
  have HKE := hide (unhide HKE2)
  clear HKE2
  go_upto_region 14 with fail
  go_cut [125] from 108 to 125 (fun v wc => v = .bool (!(gC)) ∧ wc = W2)
  case first =>
    clear HKE HB2 HT2 HGD
    by_cases h0 : ge < 1
    · have HV := hide (show true = !gC by rw [unhide HGC]; simp [h0])
      clear HGC
      go_wp2
      go_meet
      exact ⟨congrArg Value.bool (unhide HV), rfl⟩
    by_cases h1 : 1073741824 < ge
    · have HV := hide (show true = !gC by rw [unhide HGC]; simp [h1])
      clear HGC
      go_wp2
      go_meet
      exact ⟨congrArg Value.bool (unhide HV), rfl⟩
    by_cases h2 : st < 1
    · have HV := hide (show true = !gC by rw [unhide HGC]; simp [h2])
      clear HGC
      go_wp2
      go_meet
      exact ⟨congrArg Value.bool (unhide HV), rfl⟩
    by_cases h3 : 4 < st
    · have HV := hide (show true = !gC by rw [unhide HGC]; simp [h3])
      clear HGC
      go_wp2
      go_meet
      exact ⟨congrArg Value.bool (unhide HV), rfl⟩
    have HV := hide (show false = !gC by rw [unhide HGC]; simp [h0, h1, h2, h3])
    clear HGC
    go_wp2
    go_meet
    exact ⟨congrArg Value.bool (unhide HV), rfl⟩
  case rest =>
  obtain ⟨rfl, hwc⟩ := hcut
  rw [hwc]
  clear hwc HGC
  cases hc : (gC)
  · have HR : Hid (R = false) := hide (by rw [unhide HKE, hc]; rfl)
    clear HKE hc HGD
    go_wp2
    go_ret
    exact ⟨ret_bool (unhide HR).symm, unhide HB2⟩
  have HKE2 : Hid (R = gD) := hide (by rw [unhide HKE, hc]; rfl)
  clear HKE hc
  have HKE := hide (unhide HKE2)
  clear HKE2
  by_cases h1 : st = 1
  · subst h1
    by_cases h2 : en = 0
    · subst h2
      have HV := hide (show R = true by rw [unhide HKE, unhide HGD]; rfl)
      clear HKE HGD
      go_wp2
      go_ret
      exact ⟨ret_bool (unhide HV).symm, unhide HB2⟩
    · have g2 : (en == 0) = false := by simpa using h2
      have HV := hide (show R = false by rw [unhide HKE, unhide HGD, g2]; rfl)
      clear HKE HGD
      go_wp2
      go_ret
      exact ⟨ret_bool (unhide HV).symm, unhide HB2⟩
  · have g1 : (st == 1) = false := by simpa using h1
    have HV := hide (show R = decide (us ≤ en) by rw [unhide HKE, unhide HGD, g1]; rfl)
    clear HKE HGD
    go_wp2
    go_ret
    exact ⟨ret_bool (unhide HV).symm, unhide HB2⟩
end Go.Proofs.YtmjaobddgaglhaaGreatDoor
namespace Go.Proofs.YtmjaobddgaglhaaGreatDoor
open Go.RowKit Go.Lib
set_option maxHeartbeats 4000000
set_option maxRecDepth 8000
def vrre3 (X : Nat) (a1 b1 nb rr : Int) (_c : Unit) (i : Nat) : Value := match i with
  | 0 => (.pointer (some ⟨X, 4, none⟩))
  | 1 => (I a1)
  | 2 => (.pointer (some ⟨X, 7, none⟩))
  | 3 => (I b1)
  | 4 => (I nb)
  | 5 => (I rr)
  | 6 => (I rr)
  | _ => undef
def rre3T : List (Op × Option Tmp × Option (Nat × Bool)) := [
  (.fieldAddr 24 (.tmp 1) 4, some 11, none),
  (.load 3 (.tmp 11), some 12, none),
  (.fieldAddr 24 (.tmp 1) 7, some 13, none),
  (.load 3 (.tmp 13), some 14, none),
  (.call { callee := .value (.func 40), args := #[(.tmp 14)], argTypes := #[3] }, some 15, none),
  (.call { callee := .value (.func 66), args := #[(.tmp 12), (.tmp 15)], argTypes := #[3, 3] }, some 16, none),
  (.assign (.tmp 16), some 3, none)]
def rre3D : List (Nat × Nat) := [(1, 0), (3, 2), (4, 3), (5, 1), (5, 4), (6, 5)]
set_option maxHeartbeats 4000000 in
theorem rre3 {ops : Array Oper} {id : Nat} {Q : Exit → Act → World → Prop} (X : Nat) (a1 b1 nb rr : Int) (htab : ops.toList.map (fun o => (o.op, o.dst, o.guard)) = rre3T) (hdep : deplB rre3D ops = true) (hac : acB ops = true)
    (a0 : Act) (w : World) (hsz : 17 ≤ a0.tmps.size) (o1 : a0.tmps[1]? = some (.pointer (some ⟨X, 0, none⟩)))
    (Wd : Unit → (Nat → Bool) → World → Prop) (h0 : ∃ c, Wd c (fun _ => false) w.drew) (hpure : ∀ i, i ∉ ([4, 5] : List Nat) → ∀ c L W, Wd c L W → Wd c (upd L i) W)
    (r1 : ∀ c L W, Wd c L W → L 1 = false → L 0 = true → (Instr.loadAt 3 (.pointer (some ⟨X, 4, none⟩))).run Tryz.prog W = .ok (I a1) W)
    (r3 : ∀ c L W, Wd c L W → L 3 = false → L 2 = true → (Instr.loadAt 3 (.pointer (some ⟨X, 7, none⟩))).run Tryz.prog W = .ok (I b1) W)
    (r4 : ∀ c L W, Wd c L W → L 4 = false → L 3 = true → Calls Tryz.prog 40 #[(I b1)] W fun eg w' => ∃ c', (∀ j, L j = true → vrre3 X a1 b1 nb rr c' j = vrre3 X a1 b1 nb rr c j) ∧ eg = .returned (vrre3 X a1 b1 nb rr c' 4) ∧ Wd c' (upd L 4) w')
    (r5 : ∀ c L W, Wd c L W → L 5 = false → L 1 = true → L 4 = true → Calls Tryz.prog 66 #[(I a1), (I nb)] W fun eg w' => ∃ c', (∀ j, L j = true → vrre3 X a1 b1 nb rr c' j = vrre3 X a1 b1 nb rr c j) ∧ eg = .returned (vrre3 X a1 b1 nb rr c' 5) ∧ Wd c' (upd L 5) w')
    (hend : ∀ c L W, (∀ i, i < 7 → L i = true) → Wd c L W → Q .normal (((((((a0.put (some 11) (.pointer (some ⟨X, 4, none⟩))).put (some 12) (I a1)).put (some 13) (.pointer (some ⟨X, 7, none⟩))).put (some 14) (I b1)).put (some 15) (I nb)).put (some 16) (I rr)).put (some 3) (I rr)) W) : (Code.region id ops true).wp Tryz.prog Q a0 w := by
  let val : Unit → Nat → Value := vrre3 X a1 b1 nb rr
  have hosz : ops.size = 7 := by
    have := congrArg List.length htab
    simpa [rre3T] using this
  have hds : ∀ i s, (rre3T[i]?).bind (·.2.1) = some s → dstOf ops i = some s := fun i s hi => by rw [tab_dst htab, hi]
  have hdisB : disL rre3T = true := by rfl
  have hdis := disL_of htab hdisB
  have hold : ∀ s, rre3T.all (fun x => !(x.2.1 == some s)) = true → (List.range ops.size).all (fun j => !(dstOf ops j == some s)) = true := fun s h => holdL htab s h
  refine region_detX val Wd (hac_of hac) hdis h0 ?_ ?_
  rotate_left
  · intro c L W hall hW
    have := hend c L W (by rw [← hosz]; exact hall) hW
    have e : frm ops a0 (val c) (fun _ => true) ops.size = (((((((a0.put (some 11) (.pointer (some ⟨X, 4, none⟩))).put (some 12) (I a1)).put (some 13) (.pointer (some ⟨X, 7, none⟩))).put (some 14) (I b1)).put (some 15) (I nb)).put (some 16) (I rr)).put (some 3) (I rr)) := by
      rw [hosz]
      simp only [frm, if_true]
      rw [tab_dst htab 0, tab_dst htab 1, tab_dst htab 2, tab_dst htab 3, tab_dst htab 4, tab_dst htab 5, tab_dst htab 6]
      rfl
    rw [e]
    exact this
  intro i o ho c L a w' hL hd ha hW
  have hi : i < 7 := by rw [← hosz]; exact (Array.getElem?_eq_some_iff.1 ho).1
  have G : ∀ j s : Nat, (rre3T[j]?).bind (·.2.1) = some s → s < 17 → (i, j) ∈ rre3D → a.tmps[s]? = some (val c j) := fun j s h1 h2 h3 => frm_at hdis ha j s (hds j s h1) (by omega) (depl_of hdep i j h3 ho hd)
  match i, ho, hL, hi, G with
  | 0, ho, hL, _, G =>
    obtain ⟨hop, hgd⟩ := tab3 htab ho rfl
    have h0 := frm_old ha 1 _ (hold 1 rfl) o1
    exact (dXr ho hgd (hpure 0 (by decide) c L w' hW) (g_field hop (eval_of h0) (by kernel_rfl)))
  | 1, ho, hL, _, G =>
    obtain ⟨hop, hgd⟩ := tab3 htab ho rfl
    have h0 := G 0 11 rfl (by decide) (by decide)
    exact (dXr ho hgd (hpure 1 (by decide) c L w' hW) (g_load hop (eval_of h0) (r1 c L w' hW hL (depl_of hdep 1 0 (by decide) ho hd))))
  | 2, ho, hL, _, G =>
    obtain ⟨hop, hgd⟩ := tab3 htab ho rfl
    have h0 := frm_old ha 1 _ (hold 1 rfl) o1
    exact (dXr ho hgd (hpure 2 (by decide) c L w' hW) (g_field hop (eval_of h0) (by kernel_rfl)))
  | 3, ho, hL, _, G =>
    obtain ⟨hop, hgd⟩ := tab3 htab ho rfl
    have h0 := G 2 13 rfl (by decide) (by decide)
    exact (dXr ho hgd (hpure 3 (by decide) c L w' hW) (g_load hop (eval_of h0) (r3 c L w' hW hL (depl_of hdep 3 2 (by decide) ho hd))))
  | 4, ho, hL, _, G =>
    obtain ⟨hop, hgd⟩ := tab3 htab ho rfl
    have h0 := G 3 14 rfl (by decide) (by decide)
    refine doesX_call ho (wanted_none hgd) 40 #[(I b1)] ?_ (r4 c L w' hW hL (depl_of hdep 4 3 (by decide) ho hd))
    rw [run_calls Tryz.func40 (by kernel_rfl) rfl _ _ _ _ hop rfl]
    simp only [List.map_toArray, List.map_cons, List.map_nil, eval_of h0]
    all_goals rfl
  | 5, ho, hL, _, G =>
    obtain ⟨hop, hgd⟩ := tab3 htab ho rfl
    have h0 := G 1 12 rfl (by decide) (by decide)
    have h1 := G 4 15 rfl (by decide) (by decide)
    refine doesX_call ho (wanted_none hgd) 66 #[(I a1), (I nb)] ?_ (r5 c L w' hW hL (depl_of hdep 5 1 (by decide) ho hd) (depl_of hdep 5 4 (by decide) ho hd))
    rw [run_calls Tryz.func66 (by kernel_rfl) rfl _ _ _ _ hop rfl]
    simp only [List.map_toArray, List.map_cons, List.map_nil, eval_of h0, eval_of h1]
    all_goals rfl
  | 6, ho, hL, _, G =>
    obtain ⟨hop, hgd⟩ := tab3 htab ho rfl
    have h0 := G 5 16 rfl (by decide) (by decide)
    exact (dXr ho hgd (hpure 6 (by decide) c L w' hW) (by rw [run_assign _ _ _ hop]; exact congrArg (fun v => Result.ok (Next.value v) w') (eval_of h0)))
  | (i + 7), ho, hL, hi, _ => exact absurd hi (by omega)
def vrre4 (X : Nat) (a1 b1 nb rr : Int) (_c : Unit) (i : Nat) : Value := match i with
  | 0 => (.pointer (some ⟨X, 5, none⟩))
  | 1 => (I a1)
  | 2 => (.pointer (some ⟨X, 6, none⟩))
  | 3 => (I b1)
  | 4 => (I nb)
  | 5 => (I rr)
  | 6 => (I rr)
  | _ => undef
def rre4T : List (Op × Option Tmp × Option (Nat × Bool)) := [
  (.fieldAddr 24 (.tmp 1) 5, some 17, none),
  (.load 3 (.tmp 17), some 18, none),
  (.fieldAddr 24 (.tmp 1) 6, some 19, none),
  (.load 3 (.tmp 19), some 20, none),
  (.call { callee := .value (.func 40), args := #[(.tmp 20)], argTypes := #[3] }, some 21, none),
  (.call { callee := .value (.func 66), args := #[(.tmp 18), (.tmp 21)], argTypes := #[3, 3] }, some 22, none),
  (.assign (.tmp 22), some 4, none)]
def rre4D : List (Nat × Nat) := [(1, 0), (3, 2), (4, 3), (5, 1), (5, 4), (6, 5)]
set_option maxHeartbeats 4000000 in
theorem rre4 {ops : Array Oper} {id : Nat} {Q : Exit → Act → World → Prop} (X : Nat) (a1 b1 nb rr : Int) (htab : ops.toList.map (fun o => (o.op, o.dst, o.guard)) = rre4T) (hdep : deplB rre4D ops = true) (hac : acB ops = true)
    (a0 : Act) (w : World) (hsz : 23 ≤ a0.tmps.size) (o1 : a0.tmps[1]? = some (.pointer (some ⟨X, 0, none⟩)))
    (Wd : Unit → (Nat → Bool) → World → Prop) (h0 : ∃ c, Wd c (fun _ => false) w.drew) (hpure : ∀ i, i ∉ ([4, 5] : List Nat) → ∀ c L W, Wd c L W → Wd c (upd L i) W)
    (r1 : ∀ c L W, Wd c L W → L 1 = false → L 0 = true → (Instr.loadAt 3 (.pointer (some ⟨X, 5, none⟩))).run Tryz.prog W = .ok (I a1) W)
    (r3 : ∀ c L W, Wd c L W → L 3 = false → L 2 = true → (Instr.loadAt 3 (.pointer (some ⟨X, 6, none⟩))).run Tryz.prog W = .ok (I b1) W)
    (r4 : ∀ c L W, Wd c L W → L 4 = false → L 3 = true → Calls Tryz.prog 40 #[(I b1)] W fun eg w' => ∃ c', (∀ j, L j = true → vrre4 X a1 b1 nb rr c' j = vrre4 X a1 b1 nb rr c j) ∧ eg = .returned (vrre4 X a1 b1 nb rr c' 4) ∧ Wd c' (upd L 4) w')
    (r5 : ∀ c L W, Wd c L W → L 5 = false → L 1 = true → L 4 = true → Calls Tryz.prog 66 #[(I a1), (I nb)] W fun eg w' => ∃ c', (∀ j, L j = true → vrre4 X a1 b1 nb rr c' j = vrre4 X a1 b1 nb rr c j) ∧ eg = .returned (vrre4 X a1 b1 nb rr c' 5) ∧ Wd c' (upd L 5) w')
    (hend : ∀ c L W, (∀ i, i < 7 → L i = true) → Wd c L W → Q .normal (((((((a0.put (some 17) (.pointer (some ⟨X, 5, none⟩))).put (some 18) (I a1)).put (some 19) (.pointer (some ⟨X, 6, none⟩))).put (some 20) (I b1)).put (some 21) (I nb)).put (some 22) (I rr)).put (some 4) (I rr)) W) : (Code.region id ops true).wp Tryz.prog Q a0 w := by
  let val : Unit → Nat → Value := vrre4 X a1 b1 nb rr
  have hosz : ops.size = 7 := by
    have := congrArg List.length htab
    simpa [rre4T] using this
  have hds : ∀ i s, (rre4T[i]?).bind (·.2.1) = some s → dstOf ops i = some s := fun i s hi => by rw [tab_dst htab, hi]
  have hdisB : disL rre4T = true := by rfl
  have hdis := disL_of htab hdisB
  have hold : ∀ s, rre4T.all (fun x => !(x.2.1 == some s)) = true → (List.range ops.size).all (fun j => !(dstOf ops j == some s)) = true := fun s h => holdL htab s h
  refine region_detX val Wd (hac_of hac) hdis h0 ?_ ?_
  rotate_left
  · intro c L W hall hW
    have := hend c L W (by rw [← hosz]; exact hall) hW
    have e : frm ops a0 (val c) (fun _ => true) ops.size = (((((((a0.put (some 17) (.pointer (some ⟨X, 5, none⟩))).put (some 18) (I a1)).put (some 19) (.pointer (some ⟨X, 6, none⟩))).put (some 20) (I b1)).put (some 21) (I nb)).put (some 22) (I rr)).put (some 4) (I rr)) := by
      rw [hosz]
      simp only [frm, if_true]
      rw [tab_dst htab 0, tab_dst htab 1, tab_dst htab 2, tab_dst htab 3, tab_dst htab 4, tab_dst htab 5, tab_dst htab 6]
      rfl
    rw [e]
    exact this
  intro i o ho c L a w' hL hd ha hW
  have hi : i < 7 := by rw [← hosz]; exact (Array.getElem?_eq_some_iff.1 ho).1
  have G : ∀ j s : Nat, (rre4T[j]?).bind (·.2.1) = some s → s < 23 → (i, j) ∈ rre4D → a.tmps[s]? = some (val c j) := fun j s h1 h2 h3 => frm_at hdis ha j s (hds j s h1) (by omega) (depl_of hdep i j h3 ho hd)
  match i, ho, hL, hi, G with
  | 0, ho, hL, _, G =>
    obtain ⟨hop, hgd⟩ := tab3 htab ho rfl
    have h0 := frm_old ha 1 _ (hold 1 rfl) o1
    exact (dXr ho hgd (hpure 0 (by decide) c L w' hW) (g_field hop (eval_of h0) (by kernel_rfl)))
  | 1, ho, hL, _, G =>
    obtain ⟨hop, hgd⟩ := tab3 htab ho rfl
    have h0 := G 0 17 rfl (by decide) (by decide)
    exact (dXr ho hgd (hpure 1 (by decide) c L w' hW) (g_load hop (eval_of h0) (r1 c L w' hW hL (depl_of hdep 1 0 (by decide) ho hd))))
  | 2, ho, hL, _, G =>
    obtain ⟨hop, hgd⟩ := tab3 htab ho rfl
    have h0 := frm_old ha 1 _ (hold 1 rfl) o1
    exact (dXr ho hgd (hpure 2 (by decide) c L w' hW) (g_field hop (eval_of h0) (by kernel_rfl)))
  | 3, ho, hL, _, G =>
    obtain ⟨hop, hgd⟩ := tab3 htab ho rfl
    have h0 := G 2 19 rfl (by decide) (by decide)
    exact (dXr ho hgd (hpure 3 (by decide) c L w' hW) (g_load hop (eval_of h0) (r3 c L w' hW hL (depl_of hdep 3 2 (by decide) ho hd))))
  | 4, ho, hL, _, G =>
    obtain ⟨hop, hgd⟩ := tab3 htab ho rfl
    have h0 := G 3 20 rfl (by decide) (by decide)
    refine doesX_call ho (wanted_none hgd) 40 #[(I b1)] ?_ (r4 c L w' hW hL (depl_of hdep 4 3 (by decide) ho hd))
    rw [run_calls Tryz.func40 (by kernel_rfl) rfl _ _ _ _ hop rfl]
    simp only [List.map_toArray, List.map_cons, List.map_nil, eval_of h0]
    all_goals rfl
  | 5, ho, hL, _, G =>
    obtain ⟨hop, hgd⟩ := tab3 htab ho rfl
    have h0 := G 1 18 rfl (by decide) (by decide)
    have h1 := G 4 21 rfl (by decide) (by decide)
    refine doesX_call ho (wanted_none hgd) 66 #[(I a1), (I nb)] ?_ (r5 c L w' hW hL (depl_of hdep 5 1 (by decide) ho hd) (depl_of hdep 5 4 (by decide) ho hd))
    rw [run_calls Tryz.func66 (by kernel_rfl) rfl _ _ _ _ hop rfl]
    simp only [List.map_toArray, List.map_cons, List.map_nil, eval_of h0, eval_of h1]
    all_goals rfl
  | 6, ho, hL, _, G =>
    obtain ⟨hop, hgd⟩ := tab3 htab ho rfl
    have h0 := G 5 22 rfl (by decide) (by decide)
    exact (dXr ho hgd (hpure 6 (by decide) c L w' hW) (by rw [run_assign _ _ _ hop]; exact congrArg (fun v => Result.ok (Next.value v) w') (eval_of h0)))
  | (i + 7), ho, hL, hi, _ => exact absurd hi (by omega)
end Go.Proofs.YtmjaobddgaglhaaGreatDoor
namespace Go.Proofs.YtmjaobddgaglhaaGreatDoor
open Go.RowKit Go.Lib
set_option maxHeartbeats 4000000
set_option maxRecDepth 8000
theorem rNear84 (n : Int) (w : World) : Calls Tryz.prog 40 #[I n] w fun e w' => e = .returned (I (nr n)) ∧ w' = w := by
  unfold nr
  by_cases h1 : n < 0
  · rw [if_pos h1]
    go_enter Tryz.func40, Tryz.ntmps40
    go_wp2
    go_ret
    exact ⟨rfl, rfl⟩
  · rw [if_neg h1]
    by_cases h2 : 1099511627776 < n
    · rw [if_pos h2]
      go_enter Tryz.func40, Tryz.ntmps40
      go_wp2
      go_ret
      exact ⟨rfl, rfl⟩
    · rw [if_neg h2]
      go_enter Tryz.func40, Tryz.ntmps40
      go_wp2
      go_ret
      exact ⟨rfl, rfl⟩
theorem addv_hi (t d : Int) (h : 1099511627776 < d) : addv t d = 1099511627776 := by
  have b := nr_b t
  unfold addv st
  rw [if_neg (by omega), if_pos h]
  generalize nr t = x at *
  unfold nr
  split
  · omega
  · split <;> omega
theorem addv_lo (t d : Int) (h : d < -1099511627776) : addv t d = 0 := by
  have b := nr_b t
  unfold addv st
  rw [if_pos h]
  generalize nr t = x at *
  unfold nr
  split
  · rfl
  · split <;> omega
theorem addv_mid (t d : Int) (h1 : ¬ 1099511627776 < d) (h2 : ¬ d < -1099511627776) : addv t d = nr (nr t + d) := by
  unfold addv st
  rw [if_neg h2, if_neg h1]
theorem rAdd85 (t d : Int) (w : World) : Calls Tryz.prog 66 #[I t, I d] w fun e w' => e = .returned (I (addv t d)) ∧ w' = w := by
  by_cases h1 : 1099511627776 < d
  · rw [addv_hi t d h1]
    go_enter Tryz.func66, Tryz.ntmps66
    go_wp2
    go_ret
    exact ⟨rfl, rfl⟩
  · by_cases h2 : d < -1099511627776
    · rw [addv_lo t d h2]
      go_enter Tryz.func66, Tryz.ntmps66
      go_wp2
      go_ret
      exact ⟨rfl, rfl⟩
    · rw [addv_mid t d h1 h2]
      have b := nr_b t
      have X1 := hide (rNear84 t w)
      have X2 := hide (rNear84 (nr t + d) w)
      generalize nr (nr t + d) = r at *
      generalize nr t = x at *
      have q0 : 0 ≤ x := b.1
      have q1 : x ≤ 1099511627776 := b.2
      clear b
      go_enter Tryz.func66, Tryz.ntmps66
      go_wp2_with fail
      refine (unhide X1).mono ?_
      rintro e w9 ⟨rfl, hw9⟩
      rw [hw9]
      clear hw9 w9 X1
      go_wp2_with fail
      refine (unhide X2).mono ?_
      rintro e w9 ⟨rfl, hw9⟩
      rw [hw9]
      clear hw9 w9 X2
      go_wp2
      go_ret
      exact ⟨rfl, rfl⟩
theorem nr_id {x : Int} (h : 0 ≤ x ∧ x ≤ 1099511627776) : nr x = x := by
  unfold nr
  rw [if_neg (by omega), if_neg (by omega)]
theorem first_two {a b : Int} (ha : 0 ≤ a ∧ a ≤ 1099511627776) (hb : 0 ≤ b ∧ b ≤ 1099511627776) : firstv [a, b] = if b < a then b else a := by
  unfold firstv mn
  simp only [List.foldl_cons, List.foldl_nil, nr_id ha, nr_id hb]
  split <;> split <;> omega
/-- Between two operations that only read, or call what leaves the world below. -/
theorem rEnd24 (id9 : Int) (cl su : Bs) (va : Option Addr) (vc : Nat) (sc : List Bs) (cr us idl ab gr ge tk9 st en co : Int) (w : World) : Calls Tryz.prog 41 #[.agg #[I id9, S cl, S su, .slice va sc.length vc, I cr, I us, I idl, I ab, I gr, I ge, I tk9, I st, I en, I co]] w fun e w' => e = .returned (I (endV cr us idl ab st en)) ∧ Below w.heap.size w w' := by
  have HB := hide (show Below w.heap.size w (w.alloc (.cells #[I id9, S cl, S su, .slice va sc.length vc, I cr, I us, I idl, I ab, I gr, I ge, I tk9, I st, I en, I co] 24)) from (Below.refl _ w).alloc (Nat.le_refl _) _)
  have HR := hide (heap_alloc_new w (.cells #[I id9, S cl, S su, .slice va sc.length vc, I cr, I us, I idl, I ab, I gr, I ge, I tk9, I st, I en, I co] 24))
  generalize hW1 : w.alloc (.cells #[I id9, S cl, S su, .slice va sc.length vc, I cr, I us, I idl, I ab, I gr, I ge, I tk9, I st, I en, I co] 24) = W1 at *
  have c11 : W1.cell? ⟨w.heap.size, 11, none⟩ = some (I st) := cellr (unhide HR) rfl
  have c12 : W1.cell? ⟨w.heap.size, 12, none⟩ = some (I en) := cellr (unhide HR) rfl
  by_cases h1 : st = 1
  · have e1 : (st != 1) = false := by rw [bne_eq_false_iff_eq]; exact h1
    have E : endV cr us idl ab st en = if addv us (nr idl) < addv cr (nr ab) then addv us (nr idl) else addv cr (nr ab) := by
      unfold endV
      rw [if_pos h1, first_two]
      · unfold addv; exact nr_b _
      · unfold addv; exact nr_b _
    obtain ⟨m, hm⟩ : ∃ m, m = endV cr us idl ab st en := ⟨_, rfl⟩
    rw [← hm]
    rw [E] at hm
    have X1 := hide (fun W => rNear84 ab W)
    have X2 := hide (fun W => rAdd85 cr (nr ab) W)
    have X3 := hide (fun W => rNear84 idl W)
    have X4 := hide (fun W => rAdd85 us (nr idl) W)
    generalize addv us (nr idl) = r2 at *
    generalize addv cr (nr ab) = r1 at *
    generalize nr ab = n1 at *
    generalize nr idl = n2 at *
    have HMN : Hid (min r1 r2 = m) := hide (by
      rw [hm, Int.min_def]
      split <;> split <;> omega)
    have hl := lt_of_row (unhide HR)
    have HC : Hid (∀ W, Below W1.heap.size W1 W → ∀ j v, (#[I id9, S cl, S su, .slice va sc.length vc, I cr, I us, I idl, I ab, I gr, I ge, I tk9, I st, I en, I co] : Array Value)[j]? = some v → W.cell? ⟨w.heap.size, j, none⟩ = some v) := hide (fun W hW j v hv => cellr ((hW.block _ hl).trans (unhide HR)) hv)
    clear E h1 hm
    go_enter Tryz.func41, Tryz.ntmps41
    go_upto_region 3 with fail
    refine rre3 w.heap.size cr ab n1 r1 rfl (by rfl) (by rfl) _ W1 (by simp) rfl (fun _ _ W => Below W1.heap.size W1 W) ⟨(), (Below.refl _ _).drew⟩ (fun _ _ _ _ _ hW => hW)
      (fun c L W hW _ _ => s_ld (T := 3) (fun _ => by kernel_rfl) (unhide HC W hW 4 _ rfl))
      (fun c L W hW _ _ => s_ld (T := 3) (fun _ => by kernel_rfl) (unhide HC W hW 7 _ rfl))
      (fun c L W hW _ _ => (unhide X1 W).mono fun e w' q => ⟨c, fun _ _ => rfl, q.1, by rw [q.2]; exact hW⟩)
      (fun c L W hW _ _ _ => (unhide X2 W).mono fun e w' q => ⟨c, fun _ _ => rfl, q.1, by rw [q.2]; exact hW⟩) ?_
    intro c L W hall hW
    simp only [Act.put, List.setIfInBounds_toArray, List.set_cons_succ, List.set_cons_zero]
    have HW := hide hW
    clear hW hall X1 X2
    go_upto_region 4 with fail
    refine rre4 w.heap.size us idl n2 r2 rfl (by rfl) (by rfl) _ W (by simp) rfl (fun _ _ W' => Below W1.heap.size W1 W') ⟨(), (unhide HW).drew⟩ (fun _ _ _ _ _ hW => hW)
      (fun c L W hW _ _ => s_ld (T := 3) (fun _ => by kernel_rfl) (unhide HC W hW 5 _ rfl))
      (fun c L W hW _ _ => s_ld (T := 3) (fun _ => by kernel_rfl) (unhide HC W hW 6 _ rfl))
      (fun c L W hW _ _ => (unhide X3 W).mono fun e w' q => ⟨c, fun _ _ => rfl, q.1, by rw [q.2]; exact hW⟩)
      (fun c L W hW _ _ _ => (unhide X4 W).mono fun e w' q => ⟨c, fun _ _ => rfl, q.1, by rw [q.2]; exact hW⟩) ?_
    intro c' L' W' hall hW
    simp only [Act.put, List.setIfInBounds_toArray, List.set_cons_succ, List.set_cons_zero]
    have HW2 := hide ((unhide HB).trans (hW.mono (unhide HB).size))
    clear hW hall X3 X4 HC HB HR hW1
    go_wp2
    go_ret
    rw [← unhide HMN]
    exact ⟨rfl, unhide HW2⟩
  · have e1 : (st != 1) = true := by rw [bne_iff_ne]; exact h1
    have E : endV cr us idl ab st en = nr en := by
      unfold endV
      rw [if_neg h1]
    rw [E]
    have X1 := hide (rNear84 en W1)
    generalize nr en = r at *
    clear E h1
    go_enter Tryz.func41, Tryz.ntmps41
    go_wp2_with fail
    refine (unhide X1).mono ?_
    rintro e w9 ⟨rfl, hw9⟩
    rw [hw9]
    clear hw9 w9 X1
    go_wp2
    go_ret
    exact ⟨rfl, unhide HB⟩
end Go.Proofs.YtmjaobddgaglhaaGreatDoor
/- The family's small functions. -/
namespace Go.Proofs.YtmjaobddgaglhaaGreatDoor
open Go.RowKit
set_option maxHeartbeats 4000000
set_option maxRecDepth 8000
theorem fnear_any (n : Int) (w : World) : Calls Tryz.prog 39 #[I n] w fun e w' => e = .returned (I (nr n)) ∧ Below w.heap.size w w' := by
  have hb : Below w.heap.size w (w.alloc (.cells #[I n] 3)) := (Below.refl _ w).alloc (Nat.le_refl _) _
  have hc : (w.alloc (.cells #[I n] 3)).cell? ⟨w.heap.size, 0, none⟩ = some (I n) := cell_new _ _ _ _ _ rfl
  have HF := hide (first_any (some ⟨w.heap.size, 0, none⟩) 1 1 [n] (w.alloc (.cells #[I n] 3)) ⟨rfl, fun _ => ⟨w.heap.size, 0, rfl, fun j hj => by
    have e : j = 0 := by omega
    subst e
    exact hc⟩⟩ (by omega))
  have HB := hide hb
  have HV : Hid (firstv [n] = nr n) := hide (by
    have := nr_b n
    simp [firstv, mn]
    omega)
  clear hb hc
  rw [← unhide HV]
  generalize firstv [n] = r at *
  go_enter Tryz.func39, Tryz.ntmps39
  go_wp2_with fail
  refine (unhide HF).mono ?_
  rintro e w2 ⟨rfl, hw2⟩
  rw [hw2]
  go_wp2
  go_ret
  exact ⟨rfl, unhide HB⟩
/-- A state of a family that has ended. -/
def isE (s : Int) : Bool := decide (2 ≤ s) && decide (s ≤ 4)
theorem isEnd_any (s : Int) (w : World) : Calls Tryz.prog 48 #[I s] w fun e w' => e = .returned (.bool (isE s)) ∧ w' = w := by
  by_cases h1 : 2 ≤ s
  · by_cases h2 : s ≤ 4
    · have hE : Hid (isE s = true) := hide (by simp [isE, h1, h2])
      have d1 : decide (2 ≤ s) = true := by simpa using h1
      have d2 : decide (s ≤ 4) = true := by simpa using h2
      clear h1 h2
      go_enter Tryz.func48, Tryz.ntmps48
      go_wp2
      go_ret
      rw [unhide hE]
      exact ⟨rfl, rfl⟩
    · have hE : Hid (isE s = false) := hide (by simp [isE, h2])
      have d1 : decide (2 ≤ s) = true := by simpa using h1
      have d2 : decide (s ≤ 4) = false := by simpa using h2
      clear h1 h2
      go_enter Tryz.func48, Tryz.ntmps48
      go_wp2
      go_ret
      rw [unhide hE]
      exact ⟨rfl, rfl⟩
  · have hE : Hid (isE s = false) := hide (by simp [isE, h1])
    have d1 : decide (2 ≤ s) = false := by simpa using h1
    clear h1
    go_enter Tryz.func48, Tryz.ntmps48
    go_wp2
    go_ret
    rw [unhide hE]
    exact ⟨rfl, rfl⟩
/-- Within the grace. -/
def wtn (n t g : Int) : Bool := decide (nr t ≤ nr n) && decide (nr n - nr t < g)
theorem within_any (n t g : Int) (w : World) : Calls Tryz.prog 34 #[I n, I t, I g] w fun e w' => e = .returned (.bool (wtn n t g)) ∧ w' = w := by
  have X1 := hide (fun W => nearest_any n W)
  have X2 := hide (fun W => nearest_any t W)
  have HD : Hid (wtn n t g = (decide (nr t ≤ nr n) && decide (nr n - nr t < g))) := hide rfl
  have b1 := nr_b n
  have b2 := nr_b t
  generalize wtn n t g = R at *
  generalize nr n = x at *
  generalize nr t = y at *
  obtain ⟨b3, b4⟩ := b1
  obtain ⟨b5, b6⟩ := b2
  by_cases h1 : x < y
  · have HR := hide (show R = false by rw [unhide HD]; simp; omega)
    clear HD
    go_enter Tryz.func34, Tryz.ntmps34
    go_wp2_with fail
    refine (unhide X1 w).mono ?_
    rintro e w2 ⟨rfl, hw2⟩
    rw [hw2]
    go_wp2_with fail
    refine (unhide X2 w).mono ?_
    rintro e w3 ⟨rfl, hw3⟩
    rw [hw3]
    clear X1 X2 hw2 hw3 w2 w3
    go_wp2
    go_ret
    rw [unhide HR]
    exact ⟨rfl, rfl⟩
  · have HR := hide (show R = decide (x - y < g) by rw [unhide HD]; simp; omega)
    clear HD
    go_enter Tryz.func34, Tryz.ntmps34
    go_wp2_with fail
    refine (unhide X1 w).mono ?_
    rintro e w2 ⟨rfl, hw2⟩
    rw [hw2]
    go_wp2_with fail
    refine (unhide X2 w).mono ?_
    rintro e w3 ⟨rfl, hw3⟩
    rw [hw3]
    clear X1 X2 hw2 hw3 w2 w3
    go_wp2
    go_ret
    rw [unhide HR]
    exact ⟨rfl, rfl⟩
theorem rwithin_any (n t g : Int) (w : World) : Calls Tryz.prog 37 #[I n, I t, I g] w fun e w' => e = .returned (.bool (wtn n t g)) ∧ w' = w := by
  have X1 := hide (fun W => rNear84 n W)
  have X2 := hide (fun W => rNear84 t W)
  have HD : Hid (wtn n t g = (decide (nr t ≤ nr n) && decide (nr n - nr t < g))) := hide rfl
  have b1 := nr_b n
  have b2 := nr_b t
  generalize wtn n t g = R at *
  generalize nr n = x at *
  generalize nr t = y at *
  obtain ⟨b3, b4⟩ := b1
  obtain ⟨b5, b6⟩ := b2
  by_cases h1 : y ≤ x
  · have d1 : decide (y ≤ x) = true := by simpa using h1
    have HR := hide (show R = decide (x - y < g) by rw [unhide HD, d1]; rfl)
    clear HD
    go_enter Tryz.func37, Tryz.ntmps37
    go_wp2_with fail
    refine (unhide X1 w).mono ?_
    rintro e w2 ⟨rfl, hw2⟩
    rw [hw2]
    go_wp2_with fail
    refine (unhide X2 w).mono ?_
    rintro e w3 ⟨rfl, hw3⟩
    rw [hw3]
    clear X1 X2 hw2 hw3 w2 w3
    go_wp2
    go_ret
    rw [unhide HR]
    exact ⟨rfl, rfl⟩
  · have d1 : decide (y ≤ x) = false := by simpa using h1
    have HR := hide (show R = false by rw [unhide HD, d1]; rfl)
    clear HD
    go_enter Tryz.func37, Tryz.ntmps37
    go_wp2_with fail
    refine (unhide X1 w).mono ?_
    rintro e w2 ⟨rfl, hw2⟩
    rw [hw2]
    go_wp2_with fail
    refine (unhide X2 w).mono ?_
    rintro e w3 ⟨rfl, hw3⟩
    rw [hw3]
    clear X1 X2 hw2 hw3 w2 w3
    go_wp2
    go_ret
    rw [unhide HR]
    exact ⟨rfl, rfl⟩
end Go.Proofs.YtmjaobddgaglhaaGreatDoor
namespace Go.Proofs.YtmjaobddgaglhaaGreatDoor
open Go.RowKit Go.Lib
set_option maxHeartbeats 4000000
set_option maxRecDepth 8000
theorem own_keep {B : Nat} {w w' : World} {v : Value} {u : List Bs} (h : OwnS B w v u) {P : Nat → Prop} (ho : Only P w w') (hp : ∀ k, P k → k < B) : OwnS B w' v u := CtAt.keep (c := .l u) h P ho hp
end Go.Proofs.YtmjaobddgaglhaaGreatDoor
namespace Go.Proofs.YtmjaobddgaglhaaGreatDoor
open Go.RowKit Go.Lib
set_option maxHeartbeats 4000000
set_option maxRecDepth 8000
theorem same_take {fs gs : List Bs} (k : Nat) (h1 : k < fs.length) (h2 : k < gs.length) : fs.take (k + 1) = gs.take (k + 1) ↔ fs.take k = gs.take k ∧ fs.getD k [] = gs.getD k [] := by
  rw [List.take_succ_eq_append_getElem h1, List.take_succ_eq_append_getElem h2]
  have e1 : fs.getD k [] = fs[k] := by simp [h1]
  have e2 : gs.getD k [] = gs[k] := by simp [h2]
  rw [e1, e2]
  constructor
  · intro h
    have := List.append_inj h (by simp; omega)
    exact ⟨this.1, by simpa using this.2⟩
  · rintro ⟨h, h'⟩
    rw [h, h']
set_option maxHeartbeats 4000000 in
set_option maxRecDepth 8000 in
theorem same_any (a b : Option Addr) (n m c1 c2 : Nat) (fs gs : List Bs) (w : World) (hp : Sts w a n fs) (hq : Sts w b m gs) (hn : n ≤ 9223372036854775806) (hm : m ≤ 9223372036854775806) :
    Calls Tryz.prog 23 #[.slice a n c1, .slice b m c2] w fun e w' => e = .returned (.bool (decide (fs = gs))) ∧ Below w.heap.size w w' := by
  have HN := hide hp.1
  have HM := hide hq.1
  by_cases hl : n = m
  · subst hl
    have HP := hide hp
    have HQ := hide hq
    obtain ⟨T, hT⟩ : ∃ T, T = decide (fs = gs) := ⟨_, rfl⟩
    rw [← hT]
    have HT := hide hT
    clear hp hq hT hm
    go_enter Tryz.func23, Tryz.ntmps23
    go_wp2
    go_loopw [5] (fun i wr => ∃ k : Nat, k ≤ n ∧ i = .int .i64 k ∧ fs.take k = gs.take k ∧ Below w.heap.size w wr) (fun i _ => n - (Go.RowKit.intOf i).toNat)
    case atStart => exact ⟨0, by omega, rfl, rfl, Below.refl _ _⟩
    case round =>
      obtain ⟨k, hk, rfl, hsame, hbr⟩ := hrel
      by_cases hlt : k < n
      · obtain ⟨p, o, rfl, _, hc0⟩ := ((unhide HP).below hbr).at hlt
        obtain ⟨p', o', rfl, _, hd0⟩ := ((unhide HQ).below hbr).at hlt
        have hst := hide (same_take (fs := fs) (gs := gs) k (by have := unhide HN; omega) (by have := unhide HM; omega))
        have hne : Hid (fs.getD k [] ≠ gs.getD k [] → fs ≠ gs) := hide (fun h e => h (by rw [e]))
        generalize fs.getD k [] = x at *
        generalize gs.getD k [] = y at *
        have hlt' : (k : Int) < (n : Int) := by omega
        have hsm := hide hsame
        clear hsame
        go_wp2_with fail
        go_quiet (fail)
        have hs := hbr.trans (show Below w.heap.size wr (wr.drewN nq) from ⟨rfl, rfl, rfl, Nat.le_refl _, fun _ _ => rfl⟩)
        generalize wr.drewN nq = wv at *
        by_cases he : x = y
        · subst he
          have hsm2 := hide ((unhide hst).2 ⟨unhide hsm, rfl⟩)
          clear hst hne
          rw [show (!x == x) = false by simp]
          go_wp2
          refine ⟨⟨k + 1, by omega, by go_num, unhide hsm2, hs⟩, ?_⟩
          simp [Go.RowKit.intOf]; omega
        · have hT2 : T = false := by
            rw [unhide HT]
            exact decide_eq_false (unhide hne he)
          subst hT2
          rw [show (!x == y) = true by simp [he]]
          clear hst hne he
          go_wp2
          go_ret
          exact ⟨rfl, hs⟩
      · have hd : decide (k < n) = false := by simp; omega
        have hT2 : T = true := by
          rw [unhide HT]
          refine decide_eq_true ?_
          rw [List.take_of_length_le (by have := unhide HN; omega), List.take_of_length_le (by have := unhide HM; omega)] at hsame
          exact hsame
        subst hT2
        clear hsame
        go_wp2
        go_ret
        exact ⟨rfl, hbr⟩
  · have hT : decide (fs = gs) = false := decide_eq_false (fun e => hl (by have := unhide HN; have := unhide HM; rw [e] at *; omega))
    rw [hT]
    have hl' : ¬ (n : Int) = (m : Int) := by omega
    clear hp hq hl
    go_enter Tryz.func23, Tryz.ntmps23
    go_wp2
    go_ret
    exact ⟨rfl, Below.refl _ _⟩
theorem sameFamily_same (id9 : Int) (cl : Bs) (su : Bs) (sc : List Bs) (cr : Int) (us : Int) (idl : Int) (ab : Int) (gr : Int) (ge : Int) (tk9 : Int) (st : Int) (en : Int) (co : Int) (va ua : Option Addr) (vc uc : Nat) (w : World) (h1 : Sts w va sc.length sc) (h2 : Sts w ua sc.length sc) (hn : sc.length ≤ 9223372036854775806) : Calls Tryz.prog 20 #[.agg #[I id9, S cl, S su, .slice va sc.length vc, I cr, I us, I idl, I ab, I gr, I ge, I tk9, I st, I en, I co], .agg #[I id9, S cl, S su, .slice ua sc.length uc, I cr, I us, I idl, I ab, I gr, I ge, I tk9, I st, I en, I co]] w fun e w' => e = .returned (.bool true) ∧ Below w.heap.size w w' := by
  have hb0 : Below w.heap.size w ((w.alloc (.cells #[I id9, S cl, S su, .slice va sc.length vc, I cr, I us, I idl, I ab, I gr, I ge, I tk9, I st, I en, I co] 24)).alloc (.cells #[I id9, S cl, S su, .slice ua sc.length uc, I cr, I us, I idl, I ab, I gr, I ge, I tk9, I st, I en, I co] 24)) := ((Below.refl _ w).alloc (Nat.le_refl _) _).alloc (by simp) _
  have K := (show Kpr [] w from fun q hq => by cases hq).add #[I id9, S cl, S su, .slice va sc.length vc, I cr, I us, I idl, I ab, I gr, I ge, I tk9, I st, I en, I co] 24 |>.add #[I id9, S cl, S su, .slice ua sc.length uc, I cr, I us, I idl, I ab, I gr, I ge, I tk9, I st, I en, I co] 24
  have hsz : (w.alloc (.cells #[I id9, S cl, S su, .slice va sc.length vc, I cr, I us, I idl, I ab, I gr, I ge, I tk9, I st, I en, I co] 24)).heap.size = w.heap.size + 1 := by simp
  rw [hsz] at K
  have XS0 := same_any va ua sc.length sc.length vc uc sc sc ((w.alloc (.cells #[I id9, S cl, S su, .slice va sc.length vc, I cr, I us, I idl, I ab, I gr, I ge, I tk9, I st, I en, I co] 24)).alloc (.cells #[I id9, S cl, S su, .slice ua sc.length uc, I cr, I us, I idl, I ab, I gr, I ge, I tk9, I st, I en, I co] 24)) (h1.bel hb0) (h2.bel hb0) hn hn
  rw [show decide (sc = sc) = true from decide_eq_true rfl] at XS0
  have XS := hide XS0
  clear XS0
  generalize hW1 : ((w.alloc (.cells #[I id9, S cl, S su, .slice va sc.length vc, I cr, I us, I idl, I ab, I gr, I ge, I tk9, I st, I en, I co] 24)).alloc (.cells #[I id9, S cl, S su, .slice ua sc.length uc, I cr, I us, I idl, I ab, I gr, I ge, I tk9, I st, I en, I co] 24)) = W1 at *
  have HB := hide hb0
  have HK := hide K
  have c0 : W1.cell? ⟨w.heap.size, 0, none⟩ = some (I id9) := cellr K.tail.r0 rfl
  have d0 : W1.cell? ⟨w.heap.size + 1, 0, none⟩ = some (I id9) := cellr K.r0 rfl
  have c1 : W1.cell? ⟨w.heap.size, 1, none⟩ = some (S cl) := cellr K.tail.r0 rfl
  have d1 : W1.cell? ⟨w.heap.size + 1, 1, none⟩ = some (S cl) := cellr K.r0 rfl
  have c2 : W1.cell? ⟨w.heap.size, 2, none⟩ = some (S su) := cellr K.tail.r0 rfl
  have d2 : W1.cell? ⟨w.heap.size + 1, 2, none⟩ = some (S su) := cellr K.r0 rfl
  have c3 : W1.cell? ⟨w.heap.size, 3, none⟩ = some (.slice va sc.length vc) := cellr K.tail.r0 rfl
  have d3 : W1.cell? ⟨w.heap.size + 1, 3, none⟩ = some (.slice ua sc.length uc) := cellr K.r0 rfl
  have c4 : W1.cell? ⟨w.heap.size, 4, none⟩ = some (I cr) := cellr K.tail.r0 rfl
  have d4 : W1.cell? ⟨w.heap.size + 1, 4, none⟩ = some (I cr) := cellr K.r0 rfl
  have c5 : W1.cell? ⟨w.heap.size, 5, none⟩ = some (I us) := cellr K.tail.r0 rfl
  have d5 : W1.cell? ⟨w.heap.size + 1, 5, none⟩ = some (I us) := cellr K.r0 rfl
  have c6 : W1.cell? ⟨w.heap.size, 6, none⟩ = some (I idl) := cellr K.tail.r0 rfl
  have d6 : W1.cell? ⟨w.heap.size + 1, 6, none⟩ = some (I idl) := cellr K.r0 rfl
  have c7 : W1.cell? ⟨w.heap.size, 7, none⟩ = some (I ab) := cellr K.tail.r0 rfl
  have d7 : W1.cell? ⟨w.heap.size + 1, 7, none⟩ = some (I ab) := cellr K.r0 rfl
  have c8 : W1.cell? ⟨w.heap.size, 8, none⟩ = some (I gr) := cellr K.tail.r0 rfl
  have d8 : W1.cell? ⟨w.heap.size + 1, 8, none⟩ = some (I gr) := cellr K.r0 rfl
  have c9 : W1.cell? ⟨w.heap.size, 9, none⟩ = some (I ge) := cellr K.tail.r0 rfl
  have d9 : W1.cell? ⟨w.heap.size + 1, 9, none⟩ = some (I ge) := cellr K.r0 rfl
  have c10 : W1.cell? ⟨w.heap.size, 10, none⟩ = some (I tk9) := cellr K.tail.r0 rfl
  have d10 : W1.cell? ⟨w.heap.size + 1, 10, none⟩ = some (I tk9) := cellr K.r0 rfl
  have c11 : W1.cell? ⟨w.heap.size, 11, none⟩ = some (I st) := cellr K.tail.r0 rfl
  have d11 : W1.cell? ⟨w.heap.size + 1, 11, none⟩ = some (I st) := cellr K.r0 rfl
  have c12 : W1.cell? ⟨w.heap.size, 12, none⟩ = some (I en) := cellr K.tail.r0 rfl
  have d12 : W1.cell? ⟨w.heap.size + 1, 12, none⟩ = some (I en) := cellr K.r0 rfl
  have c13 : W1.cell? ⟨w.heap.size, 13, none⟩ = some (I co) := cellr K.tail.r0 rfl
  have d13 : W1.cell? ⟨w.heap.size + 1, 13, none⟩ = some (I co) := cellr K.r0 rfl
  clear K hsz hb0 h1 h2
  go_enter Tryz.func20, Tryz.ntmps20
  go_wp2_with fail
  refine (unhide XS).mono ?_
  rintro e W2 ⟨rfl, hb⟩
  have HB2 := hide ((unhide HB).trans (hb.mono (unhide HB).size))
  have HK2 := hide ((unhide HK).below hb)
  clear hb XS HB HK hW1 c0 d0 c1 d1 c2 d2 c3 d3 c4 d4 c5 d5 c6 d6 c7 d7 c8 d8 c9 d9 c10 d10 c11 d11 c12 d12 c13 d13
  have c0 : W2.cell? ⟨w.heap.size, 0, none⟩ = some (I id9) := cellr (unhide HK2).tail.r0 rfl
  have d0 : W2.cell? ⟨w.heap.size + 1, 0, none⟩ = some (I id9) := cellr (unhide HK2).r0 rfl
  have c1 : W2.cell? ⟨w.heap.size, 1, none⟩ = some (S cl) := cellr (unhide HK2).tail.r0 rfl
  have d1 : W2.cell? ⟨w.heap.size + 1, 1, none⟩ = some (S cl) := cellr (unhide HK2).r0 rfl
  have c2 : W2.cell? ⟨w.heap.size, 2, none⟩ = some (S su) := cellr (unhide HK2).tail.r0 rfl
  have d2 : W2.cell? ⟨w.heap.size + 1, 2, none⟩ = some (S su) := cellr (unhide HK2).r0 rfl
  have c3 : W2.cell? ⟨w.heap.size, 3, none⟩ = some (.slice va sc.length vc) := cellr (unhide HK2).tail.r0 rfl
  have d3 : W2.cell? ⟨w.heap.size + 1, 3, none⟩ = some (.slice ua sc.length uc) := cellr (unhide HK2).r0 rfl
  have c4 : W2.cell? ⟨w.heap.size, 4, none⟩ = some (I cr) := cellr (unhide HK2).tail.r0 rfl
  have d4 : W2.cell? ⟨w.heap.size + 1, 4, none⟩ = some (I cr) := cellr (unhide HK2).r0 rfl
  have c5 : W2.cell? ⟨w.heap.size, 5, none⟩ = some (I us) := cellr (unhide HK2).tail.r0 rfl
  have d5 : W2.cell? ⟨w.heap.size + 1, 5, none⟩ = some (I us) := cellr (unhide HK2).r0 rfl
  have c6 : W2.cell? ⟨w.heap.size, 6, none⟩ = some (I idl) := cellr (unhide HK2).tail.r0 rfl
  have d6 : W2.cell? ⟨w.heap.size + 1, 6, none⟩ = some (I idl) := cellr (unhide HK2).r0 rfl
  have c7 : W2.cell? ⟨w.heap.size, 7, none⟩ = some (I ab) := cellr (unhide HK2).tail.r0 rfl
  have d7 : W2.cell? ⟨w.heap.size + 1, 7, none⟩ = some (I ab) := cellr (unhide HK2).r0 rfl
  have c8 : W2.cell? ⟨w.heap.size, 8, none⟩ = some (I gr) := cellr (unhide HK2).tail.r0 rfl
  have d8 : W2.cell? ⟨w.heap.size + 1, 8, none⟩ = some (I gr) := cellr (unhide HK2).r0 rfl
  have c9 : W2.cell? ⟨w.heap.size, 9, none⟩ = some (I ge) := cellr (unhide HK2).tail.r0 rfl
  have d9 : W2.cell? ⟨w.heap.size + 1, 9, none⟩ = some (I ge) := cellr (unhide HK2).r0 rfl
  have c10 : W2.cell? ⟨w.heap.size, 10, none⟩ = some (I tk9) := cellr (unhide HK2).tail.r0 rfl
  have d10 : W2.cell? ⟨w.heap.size + 1, 10, none⟩ = some (I tk9) := cellr (unhide HK2).r0 rfl
  have c11 : W2.cell? ⟨w.heap.size, 11, none⟩ = some (I st) := cellr (unhide HK2).tail.r0 rfl
  have d11 : W2.cell? ⟨w.heap.size + 1, 11, none⟩ = some (I st) := cellr (unhide HK2).r0 rfl
  have c12 : W2.cell? ⟨w.heap.size, 12, none⟩ = some (I en) := cellr (unhide HK2).tail.r0 rfl
  have d12 : W2.cell? ⟨w.heap.size + 1, 12, none⟩ = some (I en) := cellr (unhide HK2).r0 rfl
  have c13 : W2.cell? ⟨w.heap.size, 13, none⟩ = some (I co) := cellr (unhide HK2).tail.r0 rfl
  have d13 : W2.cell? ⟨w.heap.size + 1, 13, none⟩ = some (I co) := cellr (unhide HK2).r0 rfl
  clear HK2
  go_wp2
  go_ret
  exact ⟨rfl, unhide HB2⟩
end Go.Proofs.YtmjaobddgaglhaaGreatDoor
namespace Go.Proofs.YtmjaobddgaglhaaGreatDoor
open Go.RowKit Go.Lib
/-- A block that holds texts and nothing else. -/
def Blk (g : Nat) (l : List Bs) (w : World) : Prop := w.heap[g]? = some (.cells (cellsS l) 9 (0, 0))
theorem cellsS_list (l : List Bs) : (cellsS l).toList = l.map fun x => S x := by simp [cellsS]
theorem cellsS_size (l : List Bs) : (cellsS l).size = l.length := by simp [cellsS]
theorem Blk.at {g : Nat} {l : List Bs} {w : World} (h : Blk g l w) (j : Nat) (hj : j < l.length) : w.cell? ⟨g, j, none⟩ = some (S (l.getD j [])) := by
  rw [cell_of_row w g j _ 9 (0, 0) h]
  simp [cellsS, hj]
theorem Blk.sts {g : Nat} {l : List Bs} {w : World} (h : Blk g l w) : Sts w (some ⟨g, 0, none⟩) l.length l := by
  refine ⟨rfl, fun _ => ⟨g, 0, rfl, fun j hj => ?_⟩⟩
  rw [Nat.zero_add]
  exact h.at j hj
theorem Blk.keep {g : Nat} {l : List Bs} {w w' : World} (h : Blk g l w) (k : Below w.heap.size w w') : Blk g l w' := by
  unfold Blk
  rw [k.block g (Array.getElem?_eq_some_iff.1 h).1]
  exact h
theorem Blk.lt {g : Nat} {l : List Bs} {w : World} (h : Blk g l w) : g < w.heap.size := (Array.getElem?_eq_some_iff.1 h).1
theorem Sts.take {w : World} {a : Option Addr} {n : Nat} {l : List Bs} (h : Sts w a n l) (m : Nat) (hm : m ≤ n) : Sts w a m (l.take m) := by
  refine ⟨by rw [List.length_take, ← h.1]; omega, fun h0 => ?_⟩
  obtain ⟨p, o, e, hc⟩ := h.2 (by omega)
  refine ⟨p, o, e, fun j hj => ?_⟩
  have e2 : (l.take m).getD j [] = l.getD j [] := by
    rw [List.getD_eq_getElem?_getD, List.getD_eq_getElem?_getD, List.getElem?_take, if_pos hj]
  rw [e2]
  exact hc j (by omega)
theorem made9 (m : Nat) : (madeCells #[Value.string ⟨#[]⟩] m).toList = List.replicate m (S []) := by
  unfold madeCells
  apply List.ext_getElem
  · simp
  · intro i h1 h2
    simp [Nat.mod_one]
/-- make([]string, n). -/
theorem makeS {ops : Array Oper} {rest : List Oper} {o : Oper} {a : Act} {w : World} {Q : Exit → Act → World → Prop} (hgd : o.guard = none) (l c : Operand) (hop : o.op = Op.makeSlice 22 l c)
    (L C : Int) (n : Nat) (hl : a.eval l = .int .i64 L) (hc : a.eval c = .int .i64 C) (hL : L = (n : Int)) (hC : C = (n : Int)) (hn : n ≤ 8796093022200)
    (h : ∀ w', Blk w.heap.size (List.replicate n []) w' → Below w.heap.size w w' → wpList Tryz.prog ops Q rest (a.put o.dst (.slice (some ⟨w.heap.size, 0, none⟩) n n)) w') : wpList Tryz.prog ops Q (o :: rest) a w := by
  obtain ⟨i0, hi, hz0, hz1, hz2⟩ := info_parts info9
  refine wpList_make_full w hgd l c 22 hop w.heap.size 9 i0 _ 1 Tryz.underlying22 hi hz0 hz1 .i64 .i64 L C n hl hc hL hC (by rw [hz2]; omega) (by unfold maxLen; omega) (Nat.le_refl _) ?_
  intro w' ho hg
  refine h w' ?_ ((Below.refl _ _).grown hg (Nat.le_refl _) (fun k e => by cases e))
  rcases ho.2 with ⟨e, _⟩ | ⟨g, cap, cur, e, _, hgg, _, _, hsz, htk⟩
  · cases e
  · simp only [Value.slice.injEq, Option.some.injEq, Addr.mk.injEq, and_true] at e
    obtain ⟨rfl, rfl⟩ : w.heap.size = g ∧ n = cap := ⟨e.1, e.2.2⟩
    unfold Blk
    rw [hgg]
    have h1 : cur.toList = List.replicate n (S []) := by
      have h2 : cur.toList.take (n * 1) = cur.toList := List.take_of_length_le (by simp; omega)
      rw [← h2, htk, Nat.mul_one]
      exact made9 n
    have e3 : cellsS (List.replicate n []) = cur := by
      rw [← Array.toList_inj, cellsS_list, h1]
      simp
    rw [e3]
theorem run_copy1 (w : World) (ty : TypeId) (g dLen dCap : Nat) (a : Addr) (sLen sCap : Nat) (cur : Array Value) (cs : List Value) (m : Nat) (hm : m = Nat.min sLen dLen)
    (hg : w.heap[g]? = some (.cells cur 9 (0, 0))) (hn : cs.length = m)
    (hsrc : ∀ j v, cs[j]? = some v → w.cell? (a.add j) = some v) (hfit : cs.length ≤ cur.size) (h1 : ∀ v ∈ cs, v.oneCell' = true) :
    (Builtin.copy_ #[22, 22] ty #[.slice (some ⟨g, 0, none⟩) dLen dCap, .slice (some a) sLen sCap]).run Tryz.prog w =
      .ok (goInt m) (w.setRow g (cs ++ cur.toList.drop cs.length).toArray) := by
  have hl := run_loadCells_list (P := Tryz.prog) w a cs hsrc
  have hst := run_storeCells_at Tryz.prog g 0 9 cs 0 cur w hg (by simpa using hfit) h1
  obtain ⟨i0, hi, hz0, hz1, hz2⟩ := info_parts info9
  rw [hn] at hl
  simp only [Nat.zero_add, List.take_zero, List.nil_append] at hst
  simp [Builtin.copy_, run_underlying Tryz.underlying22, Builtin.lenOf, Builtin.firstCells, sizeOf, typeInfo, hi, hz1, ← hm, hl, hst]
/-- copy of texts into a block of one's own. -/
theorem copyS {ops : Array Oper} {rest : List Oper} {o : Oper} {a : Act} {w : World} {Q : Exit → Act → World → Prop} (hgd : o.guard = none) (d s : Operand)
    (ho : o.op = .call { callee := .builtin .copy, args := #[d, s], argTypes := #[22, 22] }) (g dn dcap : Nat) (sp : Option Addr) (sn scap : Nat) (hd : a.eval d = .slice (some ⟨g, 0, none⟩) dn dcap) (hs : a.eval s = .slice sp sn scap)
    (fs gs : List Bs) (hb : Blk g fs w) (hf : Sts w sp sn gs) (hnone : sp = none → scap = 0) (hdn : dn ≤ fs.length)
    (h : ∀ w', Blk g (gs.take (min sn dn) ++ fs.drop (min sn dn)) w' → Only (fun k => k = g) w w' → wpList Tryz.prog ops Q rest (a.put o.dst (goInt (min sn dn : Nat))) w') : wpList Tryz.prog ops Q (o :: rest) a w := by
  refine wpList_plain hgd fun K hK => ?_
  have key : ∃ w', (Builtin.copy_ #[22, 22] o.type #[.slice (some ⟨g, 0, none⟩) dn dcap, .slice sp sn scap]).run Tryz.prog w = .ok (goInt (min sn dn : Nat)) w' ∧ Blk g (gs.take (min sn dn) ++ fs.drop (min sn dn)) w' ∧ Only (fun k => k = g) w w' := by
    have h9 : ((Tryz.prog.info? 9).map (·.size)).isSome = true := by kernel_rfl
    cases sp with
    | none =>
      have hsn : sn = 0 := by
        rcases Nat.eq_zero_or_pos sn with h0 | h0
        · exact h0
        · obtain ⟨p, o, e, _⟩ := hf.2 h0
          cases e
      have hsc := hnone rfl
      subst hsn hsc
      refine ⟨w, ?_, ?_, Only.refl _ _⟩
      · rw [run_copy_nil (P := Tryz.prog) w 22 22 o.type 9 ⟨g, 0, none⟩ dn dcap Tryz.underlying22 h9]
        simp
      · simpa using hb
    | some ad =>
      obtain ⟨m, hm⟩ : ∃ m, m = min sn dn := ⟨_, rfl⟩
      rw [← hm]
      have hl : ((gs.take m).length) = m := by rw [List.length_take, ← hf.1]; omega
      have hcl : ((gs.take m).map fun x => S x).length = m := by rw [List.length_map, hl]
      have hrun := run_copy1 w o.type g dn dcap ad sn scap (cellsS fs) ((gs.take m).map fun x => S x) m hm hb hcl (by
        intro j v hv
        have hj : j < m := by have := (List.getElem?_eq_some_iff.1 hv).1; omega
        obtain ⟨p, o, e, hcells⟩ := hf.2 (by omega)
        cases e
        have hadd : (⟨p, o, none⟩ : Addr).add j = ⟨p, o + j, none⟩ := by unfold Addr.add; split <;> simp_all
        rw [hadd, hcells j (by omega), ← hv]
        have hjl : j < gs.length := by rw [← hf.1]; omega
        simp [hj, hjl]) (by rw [hcl, cellsS_size]; omega) (by intro v hv; obtain ⟨x, _, rfl⟩ := List.mem_map.1 hv; rfl)
      refine ⟨_, hrun, ?_, setRow_Only w g _⟩
      unfold Blk
      rw [setRow_heap w g _ _ 9 _ hb, hcl, cellsS_list]
      simp [cellsS, List.map_drop]
  obtain ⟨w', hrun, hb', hk⟩ := key
  unfold Oper.wp
  simp [execOp, ho, resolve, invoke, builtin, hd, hs, hrun, Result.andThen]
  exact hK _ _ (h w' hb' hk)
theorem Blk.set {g : Nat} {l : List Bs} {w : World} (h : Blk g l w) (k : Nat) (x : Bs) : Blk g (l.set k x) (w.setCell ⟨g, k, none⟩ (S x)) := by
  unfold Blk
  rw [heap_setCell_same w g k _ 9 _ h]
  have e : cellsS (l.set k x) = (cellsS l).setIfInBounds k (S x) := by
    rw [← Array.toList_inj, cellsS_list, Array.toList_setIfInBounds, cellsS_list, List.map_set]
  rw [e]
def spare : Bs := [115, 112, 97, 114, 101]
theorem lent_sets (l : List Bs) (x y : Bs) : ((l ++ [x, y]).set l.length spare).set (l.length + 1) spare = l ++ [spare, spare] := by
  rw [List.set_append, if_neg (by omega), Nat.sub_self, List.set_cons_zero, List.set_append, if_neg (by omega), Nat.add_sub_cancel_left, List.set_cons_succ, List.set_cons_zero]
theorem Blk.part {g : Nat} {l m : List Bs} {w : World} (h : Blk g (l ++ m) w) : Sts w (some ⟨g, 0, none⟩) l.length l := by
  have := h.sts.take l.length (by simp)
  rw [List.take_left'] at this
  · exact this
  · rfl
theorem lent_laid {w w2 : World} {n : Nat} {l : List Bs} (hn : n = l.length) (h : Blk w.heap.size (l.take (min n (n + 2)) ++ (List.replicate (n + 2) []).drop (min n (n + 2))) w2) (hb : Below w.heap.size w w2) :
    ∃ o1 o2, w2.frozen? ⟨w.heap.size, n, none⟩ = false ∧ w2.cell? ⟨w.heap.size, n, none⟩ = some o1 ∧ (w2.setCell ⟨w.heap.size, n, none⟩ (.string ⟨#[115, 112, 97, 114, 101]⟩)).frozen? ⟨w.heap.size, n + 1, none⟩ = false ∧ (w2.setCell ⟨w.heap.size, n, none⟩ (.string ⟨#[115, 112, 97, 114, 101]⟩)).cell? ⟨w.heap.size, n + 1, none⟩ = some o2 ∧
      Blk w.heap.size (l ++ [spare, spare]) ((w2.setCell ⟨w.heap.size, n, none⟩ (.string ⟨#[115, 112, 97, 114, 101]⟩)).setCell ⟨w.heap.size, n + 1, none⟩ (.string ⟨#[115, 112, 97, 114, 101]⟩)) ∧ Below w.heap.size w ((w2.setCell ⟨w.heap.size, n, none⟩ (.string ⟨#[115, 112, 97, 114, 101]⟩)).setCell ⟨w.heap.size, n + 1, none⟩ (.string ⟨#[115, 112, 97, 114, 101]⟩)) := by
  rw [show min n (n + 2) = n by omega, List.take_of_length_le (by omega), List.drop_replicate, show n + 2 - n = 2 by omega] at h
  have h3 : Blk w.heap.size (l ++ [[], []]) w2 := h
  have h4 := h3.set n spare
  have h5 := h4.set (n + 1) spare
  rw [hn, lent_sets, ← hn] at h5
  exact ⟨_, _, frz h3 n, h3.at n (by simp; omega), frz h4 (n + 1), h4.at (n + 1) (by simp; omega), h5, (hb.setCell (p := ⟨w.heap.size, n, none⟩) (Nat.le_refl _) _).setCell (p := ⟨w.heap.size, n + 1, none⟩) (Nat.le_refl _) _⟩
set_option maxHeartbeats 4000000 in
set_option maxRecDepth 8000 in
theorem lent_any (a : Option Addr) (n cap : Nat) (l : List Bs) (w : World) (hp : Sts w a n l) (hnone : a = none → cap = 0) (hn : n ≤ 8796093022100) :
    Calls Tryz.prog 7 #[.slice a n cap] w fun e w' => e = .returned (.slice (some ⟨w.heap.size, 0, none⟩) n (n + 2)) ∧ Blk w.heap.size (l ++ [spare, spare]) w' ∧ Below w.heap.size w w' := by
  have HN := hide hp.1
  have HP := hide hp
  have HO := hide hnone
  clear hp hnone
  go_enter Tryz.func7, Tryz.ntmps7
  go_wp2_with (first | (refine makeS rfl (.tmp 6) (.tmp 6) rfl _ _ (n + 2) (by rfl) (by rfl) (by omega) (by omega) (by omega) ?_; intro w1 hb1 k1; have HB1 := hide hb1; have HK1 := hide k1; clear hb1 k1) | (refine copyS rfl (.tmp 8) (.tmp 9) rfl w.heap.size (n + 2) (n + 2) a n cap (by rfl) (by rfl) (List.replicate (n + 2) []) l (unhide HB1) ((unhide HP).below (unhide HK1)) (unhide HO) (by simp) ?_; intro w2 hb2 k2; have HL := hide (lent_laid (unhide HN) hb2 ((k2).below (unhide HK1) (unhide HK1).size (fun k e => by omega))); obtain ⟨o1, o2, z1, c1, z2, c2, _⟩ := unhide HL; clear hb2 k2 HB1 HK1))
  go_ret
  obtain ⟨o1, o2, z1, c1, z2, c2, h5, h6⟩ := unhide HL
  exact ⟨rfl, h5, h6⟩
set_option maxHeartbeats 4000000 in
set_option maxRecDepth 8000 in
theorem whole_any (g : Nat) (a : Option Addr) (n cap : Nat) (l : List Bs) (w : World) (hb : Blk g (l ++ [spare, spare]) w) (hp : Sts w a n l) (hn : n ≤ 8796093022100) :
    Calls Tryz.prog 24 #[.slice (some ⟨g, 0, none⟩) n (n + 2), .slice a n cap] w fun e w' => e = .returned (.bool true) ∧ Below w.heap.size w w' := by
  have e0 := hp.1
  subst e0
  have hs := same_any (some ⟨g, 0, none⟩) a l.length l.length (l.length + 2) cap l l w hb.part hp (by omega) (by omega)
  rw [decide_eq_true rfl] at hs
  have HS := hide hs
  clear hs
  have HB := hide hb
  clear hp hb
  go_enter Tryz.func24, Tryz.ntmps24
  go_wp2_with fail
  refine (unhide HS).mono ?_
  rintro e w1 ⟨rfl, b1⟩
  have hb1 := (unhide HB).keep b1
  have B1 := hide b1
  have c0 : w1.cell? ⟨g, l.length, none⟩ = some (.string ⟨#[115, 112, 97, 114, 101]⟩) := by
    rw [hb1.at l.length (by simp)]
    simp [spare]
  have c1 : w1.cell? ⟨g, l.length + 1, none⟩ = some (.string ⟨#[115, 112, 97, 114, 101]⟩) := by
    rw [hb1.at (l.length + 1) (by simp)]
    simp [spare]
  generalize l.length = n at *
  clear b1 HS HB hb1
  go_wp2
  go_ret
  exact ⟨rfl, unhide B1⟩
end Go.Proofs.YtmjaobddgaglhaaGreatDoor
namespace Go.Proofs.YtmjaobddgaglhaaGreatDoor
open Go.RowKit Go.Lib
/-- A slice of fields that has its block for itself. -/
def Row (w : World) (v : Value) (L : List Bs) : Prop := w.ownsRow 0 9 1 v L.length (L.map fun x => S x)
theorem Row.form {w : World} {v : Value} {L : List Bs} (h : Row w v L) : (v = .slice none 0 0 ∧ L = []) ∨ ∃ g cap cur, v = .slice (some ⟨g, 0, none⟩) L.length cap ∧ w.heap[g]? = some (.cells cur 9 (0, 0)) ∧ L.length ≤ cap ∧ cap ≤ maxLen ∧ cur.size = cap * 1 ∧ cur.toList.take (L.length * 1) = L.map fun x => S x := by
  rcases h.2 with ⟨e, q⟩ | ⟨g, cap, cur, e1, _, e2, e3, e4, e5, e6⟩
  · exact .inl ⟨e, List.eq_nil_of_length_eq_zero q⟩
  · exact .inr ⟨g, cap, cur, e1, e2, e3, e4, e5, e6⟩
theorem Row.keep {w w' : World} {v : Value} {L : List Bs} (h : Row w v L) (hb : ∀ g, v.ownBlock = some g → w'.heap[g]? = w.heap[g]?) : Row w' v L := by
  refine ⟨h.1, ?_⟩
  rcases h.2 with q | ⟨g, cap, cur, e1, e2, e3, e4⟩
  · exact .inl q
  · exact .inr ⟨g, cap, cur, e1, e2, (hb g (by rw [e1]; rfl)).trans e3, e4⟩
theorem Row.lt {w : World} {v : Value} {L : List Bs} (h : Row w v L) : ∀ g, v.ownBlock = some g → g < w.heap.size := fun g hg => (World.ownsRow.lt h g hg).2
/-- A text of it is written over. -/
theorem Row.set {w : World} {v : Value} {L : List Bs} (h : Row w v L) (g k : Nat) (hg : v.ownBlock = some g) (f : Bs) : Row (w.setCell ⟨g, k, none⟩ (S f)) v (L.set k f) := by
  rcases h.form with ⟨e, _⟩ | ⟨g', cap, cur, e1, e2, e3, e4, e5, e6⟩
  · rw [e] at hg; cases hg
  · have eg : g' = g := by rw [e1] at hg; simpa [Value.ownBlock] using hg
    subst eg
    refine ⟨by simp, .inr ⟨g', cap, cur.setIfInBounds k (S f), by rw [List.length_set]; exact e1, Nat.zero_le _, ?_, by rw [List.length_set]; exact e3, e4, by simp [e5], ?_⟩⟩
    · rw [heap_setCell_same w g' k cur 9 (S f) e2]
    · rw [List.length_set, Array.toList_setIfInBounds, List.take_set, e6, List.map_set]
/-- What an append of one field leaves as it was: every other block, and of the slice's own block what stands below its length. -/
structure Grown (v : Value) (n : Nat) (w w' : World) : Prop where
  os : w'.os = w.os
  tape : w'.tape = w.tape
  output : w'.output = w.output
  size : w.heap.size ≤ w'.heap.size
  block : ∀ k, k < w.heap.size → v.ownBlock ≠ some k → w'.heap[k]? = w.heap[k]?
  cell : ∀ g j, v.ownBlock = some g → j < n → w'.cell? ⟨g, j, none⟩ = w.cell? ⟨g, j, none⟩
  kind : ∀ g cur, v.ownBlock = some g → w.heap[g]? = some (.cells cur 9 (0, 0)) → ∃ cur', w'.heap[g]? = some (.cells cur' 9 (0, 0))
theorem grow_run (ty : TypeId) (w : World) (v : Value) (L : List Bs) (f : Bs) (h : Row w v L) (q : Nat) (c : Nat) (hq : w.heap[q]? = some (.cells #[S f] 9 (0, 0))) (hL : L.length ≤ 1000000000) :
    ∃ v' w', (Builtin.append_ #[22, 22] ty #[v, .slice (some ⟨q, 0, none⟩) 1 c]).run Tryz.prog w = .ok v' w' ∧ Row w' v' (L ++ [f]) ∧ Grown v L.length w w' ∧ ((∃ g, v.ownBlock = some g ∧ v'.ownBlock = some g) ∨ v'.ownBlock = some w.heap.size) := by
  obtain ⟨i0, hi, hz0, hz1, hz2⟩ := info_parts info9
  have hnews : ∀ j u, [S f][j]? = some u → w.cell? ((⟨q, 0, none⟩ : Addr).add j) = some u := by
    intro j u hj
    have hadd : ∀ i, (⟨q, 0, none⟩ : Addr).add i = ⟨q, i, none⟩ := fun i => by unfold Addr.add; split <;> simp_all
    rw [hadd, cell_of_row _ _ _ _ 9 (0, 0) hq]
    match j, hj with
    | 0, hj => simpa using hj
    | (j + 1), hj => simp at hj
  have hone : ∀ u ∈ [S f], u.oneCell' = true := by
    intro u hu
    simp at hu
    rcases hu with rfl; rfl
  obtain ⟨v', w', hr, ho, hg, hv⟩ := run_append_own (P := Tryz.prog) w 0 22 ty 9 i0 _ 1 16 Tryz.underlying22 hi hz0 hz1 hz2 rfl (by decide) v L.length ((L.map fun x => S x)) h ⟨q, 0, none⟩ 1 c [S f] rfl hnews hone (by unfold maxLen; omega) (by omega) (Nat.zero_le _)
  refine ⟨v', w', hr, ?_, ?_⟩
  · unfold Row
    rw [List.length_append, List.map_append]
    exact ho
  have hal : ∀ (o : Obj) (k : Nat), k < w.heap.size → (w.drew.alloc o).heap[k]? = w.heap[k]? := fun o k hk => Below.heap_alloc w.drew o k hk
  have hgrow : ∀ o, Grown v L.length w (w.drew.alloc o) := fun o => by
    refine ⟨rfl, rfl, rfl, by simp, fun k hk _ => hal o k hk, fun g j hg _ => ?_, fun g cur hg e => ⟨cur, (hal o g (h.lt g hg)).trans e⟩⟩
    exact World.cell?_of_block (hal o g (h.lt g hg))
  rcases h.form with ⟨rfl, rfl⟩ | ⟨g, cap, cur, rfl, e2, e3, e4, e5, e6⟩
  · have hr2 := run_append_nil (P := Tryz.prog) w 22 ty 9 i0 _ Tryz.underlying22 hi hz0 ⟨q, 0, none⟩ 1 c [S f] (by rw [hz1]; rfl) hnews (by omega) (by omega) (by rw [hz2]; omega)
    rw [hr2] at hr
    cases hr
    exact ⟨hgrow _, .inr rfl⟩
  · by_cases hroom : L.length + 1 ≤ cap
    · have hfit : L.length * i0.size + [S f].length ≤ cur.size := by
        rw [hz1, e5]
        show L.length * 1 + 1 ≤ cap * 1
        omega
      have hr2 := run_append_room (P := Tryz.prog) w 22 ty 9 i0 Tryz.underlying22 hi g L.length cap cur e2 ⟨q, 0, none⟩ 1 c [S f] (by rw [hz1]; rfl) hnews hone hroom hfit
      rw [hr2] at hr
      cases hr
      refine ⟨⟨rfl, rfl, rfl, by simp, fun k _ hk => setRow_other w g k _ (fun e => hk (by simp [Value.ownBlock, e])), fun g' j hg' hj => ?_, fun g' cur' hg' e => by
        obtain rfl : g = g' := by simpa [Value.ownBlock] using hg'
        exact ⟨_, setRow_heap w g cur _ 9 _ e2⟩⟩, .inl ⟨g, rfl, rfl⟩⟩
      obtain rfl : g = g' := by simpa [Value.ownBlock] using hg'
      rw [cell_of_row _ _ _ _ 9 (0, 0) (setRow_heap w g cur _ 9 _ e2), cell_of_row _ _ _ _ 9 (0, 0) e2, hz1]
      have hlt : j < cur.size := by omega
      have e : (cur.toList.take (L.length * 1) ++ [S f] ++ cur.toList.drop (L.length * 1 + [S f].length))[j]? = cur.toList[j]? := by
        rw [List.append_assoc, List.getElem?_append_left (by have := congrArg List.length e6; rw [List.length_map] at this; omega), List.getElem?_take, if_pos (by omega)]
      simpa using e
    · have holds : ∀ j u, ((L.map fun x => S x))[j]? = some u → w.cell? ((⟨g, 0, none⟩ : Addr).add j) = some u := World.ownsRow.cells h (g := g) rfl
      have hr2 := run_append_grow (P := Tryz.prog) w 22 ty 9 i0 _ Tryz.underlying22 hi hz0 ⟨g, 0, none⟩ L.length cap ((L.map fun x => S x)) (by rw [hz1]; simp) holds ⟨q, 0, none⟩ 1 c [S f] (by rw [hz1]; rfl) hnews (by omega) (by omega) (growslice_fits (by omega) (by rw [hz2]; omega))
      rw [hr2] at hr
      cases hr
      exact ⟨hgrow _, .inr rfl⟩
/-- x = append(x, f), the new field in a block that was just laid. -/
theorem growF {ops : Array Oper} {rest : List Oper} {o : Oper} {a : Act} {Q : Exit → Act → World → Prop} (hgd : o.guard = none) (s x : Operand)
    (ho : o.op = .call { callee := .builtin .append, args := #[s, x], argTypes := #[22, 22] }) (v : Value) (L : List Bs) (hs : a.eval s = v) (w0 : World) (f : Bs) (hb : Row w0 v L)
    (hx : a.eval x = .slice (some ⟨w0.heap.size, 0, none⟩) 1 1) (hL : L.length ≤ 1000000000)
    (h : ∀ v' w', Row w' v' (L ++ [f]) → Grown v L.length (w0.alloc (.cells #[S f] 9)) w' → ((∃ g, v.ownBlock = some g ∧ v'.ownBlock = some g) ∨ v'.ownBlock = some (w0.heap.size + 1)) → wpList Tryz.prog ops Q rest (a.put o.dst v') w') : wpList Tryz.prog ops Q (o :: rest) a (w0.alloc (.cells #[S f] 9)) := by
  refine wpList_plain hgd fun K hK => ?_
  have hb' : Row (w0.alloc (.cells #[S f] 9)) v L := hb.keep (fun g hg => Below.heap_alloc w0 _ g (hb.lt g hg))
  have hq : (w0.alloc (.cells #[S f] 9)).heap[w0.heap.size]? = some (.cells #[S f] 9 (0, 0)) := by
    exact heap_alloc_new _ _
  obtain ⟨v', w', hr, h2, h3, h4⟩ := grow_run o.type _ v L f hb' w0.heap.size 1 hq hL
  have hsz : (w0.alloc (.cells #[S f] 9)).heap.size = w0.heap.size + 1 := by simp
  rw [hsz] at h4
  unfold Oper.wp execOp
  simp only [ho, resolve, invoke, builtin, Sem.run_bind, Sem.run_pure, Result.andThen_ok, List.map_toArray, List.map_cons, List.map_nil, hs, hx, hr]
  exact hK _ _ (h v' w' h2 h3 h4)
end Go.Proofs.YtmjaobddgaglhaaGreatDoor
/- Lists of names that are copied, and written over. -/
namespace Go.Proofs.YtmjaobddgaglhaaGreatDoor
open Go.RowKit Go.Lib
set_option maxHeartbeats 4000000
set_option maxRecDepth 8000
/-- A list that came out: its owner's. -/
def OutO (w : World) (r : List Bs) (e : Ending) (w' : World) : Prop := ∃ a cap, e = .returned (.slice a r.length cap) ∧ OwnS w.heap.size w' (.slice a r.length cap) r ∧ Below w.heap.size w w'
/-- Names that may be copied. -/
def Shn (l : List Bs) : Prop := l.length ≤ 1000 ∧ ∀ j, (l.getD j []).length ≤ 1000
theorem ownNames_any (a : Option Addr) (n cap : Nat) (l : List Bs) (w : World) (hp : Sts w a n l) (hs : Shn l) : Calls Tryz.prog 50 #[.slice a n cap] w (OutO w l) := by
  have hn : l.length = n := hp.1.symm
  have hn2 : n ≤ 1000 := by have := hs.1; omega
  have HP := hide hp
  have HS := hide hs.2
  have HL := hide hn
  clear hp hs hn
  go_enter Tryz.func50, Tryz.ntmps50
  go_wp2
  go_loopw [3, 8] (fun v i wr => ∃ k : Nat, k ≤ n ∧ i = .int .i64 k ∧ OwnS w.heap.size wr v (l.take k) ∧ Below w.heap.size w wr) (fun _ i _ => n - (Go.RowKit.intOf i).toNat)
  case atStart => exact ⟨0, by omega, rfl, own_nil _ _, Below.refl _ _⟩
  case round =>
    obtain ⟨k, hk, rfl, hown, hbel⟩ := hrel
    obtain ⟨va, vc, rfl⟩ := hown.form
    have hlk : (l.take k).length = k := by rw [List.length_take]; have := unhide HL; omega
    rw [hlk] at hown ⊢
    have hzB := hbel.size
    by_cases hlt : k < n
    · obtain ⟨p, o, rfl, _, hc0⟩ := ((unhide HP).below hbel).at hlt
      have HX := hide (fun W => clone_any (l.getD k []) W (by have := unhide HS k; omega))
      have hadd : Hid (l.take k ++ [l.getD k []] = l.take (k + 1)) := hide (by
        have hkl : k < l.length := by have := unhide HL; omega
        rw [List.take_succ_eq_append_getElem hkl]
        simp [hkl])
      have HO := hide hown
      have HB := hide hbel
      clear hown hbel
      generalize l.getD k [] = x at *
      have hlt' : (k : Int) < (n : Int) := by omega
      go_wp2_with fail
      refine (unhide HX wr).mono ?_
      rintro e w2 ⟨rfl, hb2⟩
      have HO2 := hide ((unhide HO).below hb2 (Nat.le_refl _))
      have hbs := hb2.size
      have HB2 := hide ((unhide HB).trans (hb2.mono hzB))
      clear hb2 HO HB HX
      go_wp2_with (first
        | (at_builtin; refine pushS rfl (.tmp 12) (.tmp 15) rfl w.heap.size (.slice va k vc) (l.take k) (by rfl) w2 (unhide HO2) x rfl (by rfl) (by omega) (by omega) ?_; intro v2 w3 ho2 hb2; have HO3 := hide ho2; have HB3 := hide (hb2 _ _ (Nat.le_refl _) (unhide HB2)); clear ho2 hb2))
      have ho := unhide HO3
      rw [unhide hadd] at ho
      refine ⟨⟨k + 1, by omega, by go_num, ho, unhide HB3⟩, ?_⟩
      simp [Go.RowKit.intOf]; omega
    · have hkn : k = n := by omega
      subst hkn
      have e : l.take k = l := List.take_of_length_le (by have := unhide HL; omega)
      rw [e] at hown hlk
      have HO := hide hown
      have HB := hide hbel
      clear hown hbel
      have hd : ¬ (k : Int) < (k : Int) := by omega
      clear e
      have HK := hide hlk
      clear hlk
      go_wp2
      go_ret
      exact ⟨va, vc, by rw [unhide HK]; rfl, by rw [unhide HK]; exact unhide HO, unhide HB⟩
theorem copied_any (a : Option Addr) (n cap : Nat) (l : List Bs) (w : World) (hp : Sts w a n l) (hs : Shn l) : Calls Tryz.prog 51 #[.slice a n cap] w (OutO w l) := by
  have hn : l.length = n := hp.1.symm
  have hn2 : n ≤ 1000 := by have := hs.1; omega
  have HP := hide hp
  have HL := hide hn
  clear hp hs hn
  go_enter Tryz.func51, Tryz.ntmps51
  go_wp2
  go_loopw [3, 4] (fun v i wr => ∃ k : Nat, k ≤ n ∧ i = .int .i64 k ∧ OwnS w.heap.size wr v (l.take k) ∧ Below w.heap.size w wr) (fun _ i _ => n - (Go.RowKit.intOf i).toNat)
  case atStart => exact ⟨0, by omega, rfl, own_nil _ _, Below.refl _ _⟩
  case round =>
    obtain ⟨k, hk, rfl, hown, hbel⟩ := hrel
    obtain ⟨va, vc, rfl⟩ := hown.form
    have hlk : (l.take k).length = k := by rw [List.length_take]; have := unhide HL; omega
    rw [hlk] at hown ⊢
    have hzB := hbel.size
    by_cases hlt : k < n
    · obtain ⟨p, o, rfl, _, hc0⟩ := ((unhide HP).below hbel).at hlt
      have hadd : Hid (l.take k ++ [l.getD k []] = l.take (k + 1)) := hide (by
        have hkl : k < l.length := by have := unhide HL; omega
        rw [List.take_succ_eq_append_getElem hkl]
        simp [hkl])
      have HO := hide hown
      have HB := hide hbel
      clear hown hbel
      generalize l.getD k [] = x at *
      have hlt' : (k : Int) < (n : Int) := by omega
      go_wp2_with (first
        | (at_builtin; refine pushS rfl (.tmp 11) (.tmp 16) rfl w.heap.size (.slice va k vc) (l.take k) (by rfl) wr (unhide HO) x rfl (by rfl) (by omega) (by omega) ?_; intro v2 w3 ho2 hb2; have HO3 := hide ho2; have HB3 := hide (hb2 _ _ (Nat.le_refl _) (unhide HB)); clear ho2 hb2))
      have ho := unhide HO3
      rw [unhide hadd] at ho
      refine ⟨⟨k + 1, by omega, by go_num, ho, unhide HB3⟩, ?_⟩
      simp [Go.RowKit.intOf]; omega
    · have hkn : k = n := by omega
      subst hkn
      have e : l.take k = l := List.take_of_length_le (by have := unhide HL; omega)
      rw [e] at hown hlk
      have HO := hide hown
      have HB := hide hbel
      clear hown hbel
      have hd : ¬ (k : Int) < (k : Int) := by omega
      clear e
      have HK := hide hlk
      clear hlk
      go_wp2
      go_ret
      exact ⟨va, vc, by rw [unhide HK]; rfl, by rw [unhide HK]; exact unhide HO, unhide HB⟩
def OV : Bs := [111, 118, 101, 114]
theorem row_own {B : Nat} {w : World} {v : Value} {l : List Bs} (h : OwnS B w v l) : Row w v l := by
  refine ⟨h.1, ?_⟩
  rcases h.2 with q | ⟨g, cap, cur, e1, e2, e3⟩
  · exact .inl q
  · exact .inr ⟨g, cap, cur, e1, Nat.zero_le _, e3⟩
theorem ovr_step (u : List Bs) (k : Nat) (hk : k < u.length) : (List.replicate k OV ++ u.drop k).set k OV = List.replicate (k + 1) OV ++ u.drop (k + 1) := by
  apply List.ext_getElem
  · simp; omega
  · intro i h1 h2
    simp only [List.getElem_set, List.getElem_append, List.length_replicate, List.getElem_replicate, List.getElem_drop]
    by_cases e : k = i
    · subst e; simp
    · by_cases e2 : i < k
      · simp [e, e2, show i < k + 1 by omega]
      · simp only [e, e2, show ¬ i < k + 1 by omega, if_false, dif_neg, not_false_eq_true]
        congr 1
        omega
theorem Row.sl {w : World} {v : Value} {L : List Bs} (h : Row w v L) : ∃ p c, v = .slice p L.length c := by
  rcases h.form with ⟨e, e'⟩ | ⟨g, cap', cur, e1, _⟩
  · exact ⟨none, 0, by rw [e, e']; rfl⟩
  · exact ⟨_, _, e1⟩
/-- over: the list's owner writes it over, and puts nine behind it: nothing else is changed. -/
theorem over_any (a : Option Addr) (cap : Nat) (u : List Bs) (w : World) (h : Row w (.slice a u.length cap) u) (hl : u.length ≤ 1000) : Calls Tryz.prog 22 #[.slice a u.length cap] w fun e w' => e = .returned (.bool true) ∧ Only (fun k => (Value.slice a u.length cap).ownBlock = some k) w w' := by
  have HR0 := hide h
  generalize hP : (fun k => (Value.slice a u.length cap).ownBlock = some k) = P at *
  have HP := hide hP
  clear h hP
  generalize hn : u.length = n at *
  have HN := hide hn
  clear hn
  go_enter Tryz.func22, Tryz.ntmps22
  go_wp2
  go_loopw [3] (fun i wr => ∃ k : Nat, k ≤ n ∧ i = .int .i64 k ∧ Row wr (.slice a n cap) (List.replicate k OV ++ u.drop k) ∧ Only P w wr) (fun i _ => n - (Go.RowKit.intOf i).toNat)
  case atStart => exact ⟨0, by omega, rfl, unhide HR0, Only.refl _ _⟩
  case round =>
    obtain ⟨k, hk, rfl, hrow, hon⟩ := hrel
    have hlen : (List.replicate k OV ++ u.drop k).length = n := by have := unhide HN; simp; omega
    by_cases hlt : k < n
    · rcases hrow.form with ⟨e, e'⟩ | ⟨g, cap', cur, e1, e2, e3, e4, e5, e6⟩
      · rw [e'] at hlen; simp at hlen; omega
      · rw [hlen] at e1
        obtain ⟨rfl, rfl⟩ : a = some ⟨g, 0, none⟩ ∧ cap = cap' := by simpa using e1
        have HR := hide (hrow.set g k rfl OV)
        rw [ovr_step u k (by have := unhide HN; omega)] at HR
        have HO := hide (hon.put ⟨g, k, none⟩ (S OV) (.inl (by rw [← unhide HP]; rfl)))
        have hfz : wr.frozen? ⟨g, k, none⟩ = false := frz e2 k
        have hcell : wr.cell? ⟨g, k, none⟩ = some (S ((List.replicate k OV ++ u.drop k).getD k [])) := by
          have := World.ownsRow.cells hrow (g := g) rfl k (S ((List.replicate k OV ++ u.drop k).getD k [])) (by
            rw [List.getElem?_map, List.getElem?_eq_getElem (by omega)]
            simp [hlen, hlt])
          rw [show (⟨g, 0, none⟩ : Addr).add k = ⟨g, k, none⟩ by unfold Addr.add; split <;> simp_all] at this
          exact this
        generalize (List.replicate k OV ++ u.drop k).getD k [] = x0 at *
        have hlt' : (k : Int) < (n : Int) := by omega
        clear hrow hon e2 e3 e4 e5 e6 e1 hlen
        go_wp2
        refine ⟨⟨k + 1, by omega, by go_num, unhide HR, unhide HO⟩, ?_⟩
        simp [Go.RowKit.intOf]; omega
    · have hkn : k = n := by omega
      subst hkn
      have e : List.replicate k OV ++ u.drop k = List.replicate k OV := by
        rw [List.drop_of_length_le (by have := unhide HN; omega)]; simp
      rw [e] at hrow
      have HR := hide hrow
      have HO := hide hon
      clear hrow hon e hlen
      have hd : ¬ (k : Int) < (k : Int) := by omega
      go_wp2
      go_loopw [0, 5] (fun v i wq => ∃ j : Nat, j ≤ 9 ∧ i = .int .i64 j ∧ Row wq v (List.replicate (k + j) OV) ∧ (∀ g, v.ownBlock = some g → P g ∨ w.heap.size ≤ g) ∧ Only P w wq) (fun _ i _ => 9 - (Go.RowKit.intOf i).toNat)
      case atStart => exact ⟨0, by omega, rfl, unhide HR, fun g hg => .inl (by rw [← unhide HP]; exact hg), unhide HO⟩
      case round =>
        obtain ⟨j, hj, rfl, hrow, hown, hon⟩ := hrel
        have hlr : (List.replicate (k + j) OV).length = k + j := by simp
        obtain ⟨p, c, rfl⟩ := hrow.sl
        rw [hlr] at hrow hown ⊢
        have HR2 := hide hrow
        have HW2 := hide hown
        have HO2 := hide hon
        clear hrow hown hon HR HO
        by_cases hlt : j < 9
        · have hlt' : (j : Int) < 9 := by omega
          go_wp2_with (first
            | (at_builtin; refine growF rfl (.tmp 21) (.tmp 22) rfl (.slice p (k + j) c) (List.replicate (k + j) OV) (by rfl) wr OV (unhide HR2) (by rfl) (by rw [hlr]; omega) ?_; intro v2 w3 hr3 hg3 ho3; have HR3 := hide hr3; have HG3 := hide hg3; have HW3 := hide ho3; clear hr3 hg3 ho3))
          have X := (unhide HO2).more (.cells #[S OV] 9)
          have hgr := unhide HG3
          have hO4 : Only P w w3 := ⟨hgr.os.trans X.os, hgr.tape.trans X.tape, hgr.output.trans X.output, Nat.le_trans X.size hgr.size, fun q hq hp => (hgr.block q (Nat.lt_of_lt_of_le hq X.size) (fun e => by
            rcases unhide HW2 q e with h1 | h1
            · exact hp h1
            · omega)).trans (X.block q hq hp)⟩
          have hsz := (unhide HO2).size
          have hW4 : ∀ g, v2.ownBlock = some g → P g ∨ w.heap.size ≤ g := fun g hg => by
            rcases unhide HW3 with ⟨g', h1, h2⟩ | h1
            · rw [h2] at hg
              obtain rfl := Option.some.inj hg
              exact unhide HW2 _ h1
            · rw [h1] at hg
              obtain rfl := Option.some.inj hg
              exact .inr (by omega)
          have hR4 := unhide HR3
          rw [show List.replicate (k + j) OV ++ [OV] = List.replicate (k + (j + 1)) OV by rw [← Nat.add_assoc, List.replicate_succ']] at hR4
          refine ⟨⟨j + 1, by omega, by go_num, hR4, hW4, hO4⟩, ?_⟩
          simp [Go.RowKit.intOf]; omega
        · have hj9 : j = 9 := by omega
          subst hj9
          have hd : ¬ ((9 : Nat) : Int) < 9 := by omega
          go_wp2
          go_ret
          exact ⟨by go_num, unhide HO2⟩
end Go.Proofs.YtmjaobddgaglhaaGreatDoor
