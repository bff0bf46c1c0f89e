import Derived.Test.YtmjaobddgaglhaaGreatDoorFqb
import Derived.Test.YtmjaobddgaglhaaGreatDoorZfmi
/- FamilyOnce's pure half. -/
namespace Go.Proofs.YtmjaobddgaglhaaGreatDoor
open Go.RowKit
set_option maxHeartbeats 4000000
set_option maxRecDepth 8000
/-- What holds of a book between two steps. -/
structure Iv (cr idl ab gr us tk st en : Int) (l : List Tk) (sp : List Int) (ed : Bool) (now fin : Int) : Prop where
  n1 : 1 ≤ l.length
  n2 : l.length ≤ 61
  hsp : sp.length = l.length
  htk : tk = 9 + (l.length : Int)
  c0 : 0 ≤ cr
  c1 : cr ≤ us
  c2 : us ≤ now
  c3 : now ≤ 1099511627776
  c4 : now ≤ cr + 2940
  i1 : 1 ≤ idl ∧ idl ≤ 100
  i2 : 1 ≤ ab ∧ ab ≤ 400
  i3 : 0 ≤ gr ∧ gr ≤ 39
  s0 : ed = false → st = 1 ∧ en = 0
  s1 : ed = true → (st = 3 ∨ st = 4) ∧ en = fin ∧ us ≤ fin ∧ fin ≤ now
  tok : ∀ (k : Nat) (t : Tk), l[k]? = some t → t.ti = 10 + (k : Int) ∧ t.tg = (k : Int) + 1 ∧ t.ha.length = 32 ∧ 0 ≤ t.mi ∧ t.mi ≤ us ∧ (k + 1 = l.length → t.sp = false ∧ t.at9 = 0 ∧ t.ne = 0 ∧ t.se = []) ∧ (k + 1 < l.length → t.sp = true ∧ sp[k]? = some t.at9 ∧ t.mi ≤ t.at9 ∧ t.at9 ≤ us ∧ t.ne = 11 + (k : Int) ∧ t.se = tSec)
  spb : ∀ (k : Nat) (z : Int), sp[k]? = some z → 0 ≤ z ∧ z ≤ us
/-- When the family is over, if nobody comes. -/
def enB (cr us idl ab : Int) : Int := min (min (cr + ab) (us + idl)) 1099511627776
section
variable {cr idl ab gr us tk st en : Int} {l : List Tk} {sp : List Int} {ed : Bool} {now fin : Int}
theorem Iv.fam (h : Iv cr idl ab gr us tk st en l sp ed now fin) : famOK 7 tApp tAnn [tRead] cr us idl ab gr (l.length : Int) tk st en 0 = true := by
  have e1 : right [tApp] = true := by decide +kernel
  have e2 : right [tAnn] = true := by decide +kernel
  have e3 : right [tRead] = true := by decide +kernel
  have := h.n1; have := h.n2; have := h.htk; have := h.c0; have := h.c1; have := h.c2; have := h.c3; have := h.i1; have := h.i2; have := h.i3
  have hst : staOK us st en = true := by
    cases ed
    · obtain ⟨a, b⟩ := h.s0 rfl
      subst a; subst b; rfl
    · obtain ⟨a, b, c, d⟩ := h.s1 rfl
      unfold staOK
      rcases a with rfl | rfl <;> simp [tim] <;> omega
  unfold famOK
  rw [e1, e2, e3, hst]
  simp [idn, tim, spn, gnr]
  omega
theorem Iv.tokM (h : Iv cr idl ab gr us tk st en l sp ed now fin) {k : Nat} {t : Tk} (hk : l[k]? = some t) : tokOK t.ti 7 t.tg t.ha t.mi t.sp t.at9 t.ne t.se = true := by
  have hl := (List.getElem?_eq_some_iff.1 hk).1
  obtain ⟨a1, a2, a3, a4, a5, a6, a7⟩ := h.tok k t hk
  have := h.n2; have := h.c0; have := h.c1; have := h.c2; have := h.c3
  have hs : spOK t.mi t.sp t.at9 t.ne t.se = true := by
    by_cases e : k + 1 = l.length
    · obtain ⟨b1, b2, b3, b4⟩ := a6 e
      unfold spOK
      rw [b1, b2, b3, b4]; rfl
    · obtain ⟨b1, b2, b3, b4, b5, b6⟩ := a7 (by omega)
      unfold spOK
      rw [b1, b6]
      simp [tim, idn]
      omega
  unfold tokOK
  rw [hs]
  simp [idn, gnr, tim, a3]
  omega
theorem endV_st (cr us idl ab en : Int) (h0 : 0 ≤ cr) (h1 : cr ≤ 1099511627776) (h2 : 0 ≤ us) (h3 : us ≤ 1099511627776) (h4 : 0 ≤ idl) (h5 : idl ≤ 1000) (h6 : 0 ≤ ab) (h7 : ab ≤ 1000) : endV cr us idl ab 1 en = enB cr us idl ab := by
  have a1 : nr ab = ab := nr_id ⟨h6, by omega⟩
  have a2 : nr idl = idl := nr_id ⟨h4, by omega⟩
  have a3 : addv cr ab = nr (nr cr + ab) := addv_mid cr ab (by omega) (by omega)
  have a4 : addv us idl = nr (nr us + idl) := addv_mid us idl (by omega) (by omega)
  have a5 : nr cr = cr := nr_id ⟨h0, h1⟩
  have a6 : nr us = us := nr_id ⟨h2, h3⟩
  unfold endV enB
  rw [if_pos rfl, a1, a2, a3, a4, a5, a6]
  simp only [firstv, List.foldl, mn, nr_nr]
  unfold nr
  omega
theorem Iv.end1 (h : Iv cr idl ab gr us tk st en l sp ed now fin) (he : ed = false) : endV cr us idl ab st en = enB cr us idl ab := by
  obtain ⟨a, _⟩ := h.s0 he
  subst a
  have := h.c0; have := h.c1; have := h.c2; have := h.c3; have := h.i1; have := h.i2
  exact endV_st _ _ _ _ _ (by omega) (by omega) (by omega) (by omega) (by omega) (by omega) (by omega) (by omega)
theorem Iv.alvM (h : Iv cr idl ab gr us tk st en l sp ed now fin) : alv cr us idl ab st en now = (!ed && decide (now < enB cr us idl ab)) := by
  have hn : nr now = now := nr_id ⟨by have := h.c0; have := h.c1; have := h.c2; omega, h.c3⟩
  unfold alv
  rw [hn]
  cases ed
  · rw [h.end1 rfl]
    simp [(h.s0 rfl).1]
  · have : ¬ st = 1 := by rcases (h.s1 rfl).1 with q | q <;> omega
    simp [this]
/-- The verdict is the book's. -/
theorem Iv.verd (h : Iv cr idl ab gr us tk st en l sp ed now fin) {k : Nat} {t : Tk} {z : Int} (hk : l[k]? = some t) (hz : sp[k]? = some z) : jdg 7 tApp tAnn [tRead] cr us idl ab gr (l.length : Int) tk st en 0 t.ti 7 t.tg t.ha t.mi t.sp t.at9 t.ne t.se now = vdt ed now (enB cr us idl ab) k l.length z gr := by
  have hl := (List.getElem?_eq_some_iff.1 hk).1
  obtain ⟨a1, a2, a3, a4, a5, a6, a7⟩ := h.tok k t hk
  have hn : nr now = now := nr_id ⟨by have := h.c0; have := h.c1; have := h.c2; omega, h.c3⟩
  unfold jdg
  rw [h.fam, h.tokM hk, h.alvM]
  unfold jd vdt
  have h77 : ((7 : Int) == 7) = true := by decide
  rw [h77]
  have htk := h.htk
  cases ed
  · have hst := (h.s0 rfl).1
    have e1 : (st == 1) = true := by rw [hst]; rfl
    rw [e1]
    by_cases hE : now < enB cr us idl ab
    · by_cases e : k + 1 = l.length
      · obtain ⟨b1, _⟩ := a6 e
        have e2 : (t.ti == tk) = true := by simp; omega
        have e3 : (t.tg == (l.length : Int)) = true := by simp; omega
        rw [b1, e2, e3]
        simp [hE, e, show ¬ enB cr us idl ab ≤ now by omega]
      · obtain ⟨b1, b2, b3, b4, b5, b6⟩ := a7 (by omega)
        rw [b2] at hz
        have hz2 : t.at9 = z := by simpa using hz
        have hb := h.spb k z (by rw [b2]; exact hz)
        have hna : nr t.at9 = t.at9 := nr_id ⟨by omega, by have := h.c2; have := h.c3; omega⟩
        have hw : wtn now t.at9 gr = decide (now - z < gr) := by
          unfold wtn
          rw [hn, hna, hz2]
          have := h.c2
          simp; omega
        rw [b1, hw]
        by_cases hg : now - z < gr <;> simp [hE, e, hg, show ¬ enB cr us idl ab ≤ now by omega]
    · simp [hE, show enB cr us idl ab ≤ now by omega]
  · have : ¬ st = 1 := by rcases (h.s1 rfl).1 with q | q <;> omega
    have e1 : (st == 1) = false := by simpa using this
    rw [e1]
    simp
end
end Go.Proofs.YtmjaobddgaglhaaGreatDoor
