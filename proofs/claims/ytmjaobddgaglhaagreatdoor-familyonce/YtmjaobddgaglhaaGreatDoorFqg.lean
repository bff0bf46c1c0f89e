import Derived.Test.YtmjaobddgaglhaaGreatDoorFqf
/- FamilyOnce's pure half, its steps; pick. -/
namespace Go.Proofs.YtmjaobddgaglhaaGreatDoor
open Go.RowKit
set_option maxHeartbeats 4000000
set_option maxRecDepth 8000
section
variable {cr idl ab gr us tk st en : Int} {l : List Tk} {sp : List Int} {ed : Bool} {now fin : Int}
theorem Iv.nrn (h : Iv cr idl ab gr us tk st en l sp ed now fin) : nr now = now := nr_id ⟨by have := h.c0; have := h.c1; have := h.c2; omega, h.c3⟩
theorem Iv.spk (h : Iv cr idl ab gr us tk st en l sp ed now fin) {k : Nat} (hk : k < l.length) : ∃ z, sp[k]? = some z ∧ 0 ≤ z ∧ z ≤ 1099511627776 := by
  have hk2 : k < sp.length := by rw [h.hsp]; exact hk
  have q := h.spb k sp[k] (List.getElem?_eq_getElem hk2)
  exact ⟨sp[k], List.getElem?_eq_getElem hk2, q.1, by have := h.c2; have := h.c3; omega⟩
/-- A fresh token is rotated. -/
theorem Iv.rot (h : Iv cr idl ab gr us tk st en l sp ed now fin) {k : Nat} {t : Tk} (hk : l[k]? = some t) (hv : jdg 7 tApp tAnn [tRead] cr us idl ab gr (l.length : Int) tk st en 0 t.ti 7 t.tg t.ha t.mi t.sp t.at9 t.ne t.se now = 1) : rotE (jdg 7 tApp tAnn [tRead] cr us idl ab gr (l.length : Int) tk st en 0 t.ti 7 t.tg t.ha t.mi t.sp t.at9 t.ne t.se now) us t.mi now (l.length : Int) (10 + (l.length : Int)) tSec = 0 := by
  obtain ⟨a1, a2, a3, a4, a5, a6, a7⟩ := h.tok k t hk
  have := h.c2; have := h.n2
  have hc : curOK (10 + (l.length : Int)) tSec = true := by
    unfold curOK idn
    simp
    omega
  unfold rotE
  rw [hv, if_pos ⟨rfl, by omega, by omega⟩, hc, if_pos rfl, if_neg (by omega)]
theorem mnt_new (n : Nat) (h : n ≤ 61) : mnt 1 (10 + (n : Int)) tSec = (tkn 1 (10 + (n : Int)).toNat tSec, 0) := by
  rw [mnt_cur]
  have hc : curOK (10 + (n : Int)) tSec = true := by
    unfold curOK idn
    simp
    omega
  rw [hc, if_pos rfl]
theorem Iv.jd1 (h : Iv cr idl ab gr us tk st en l sp ed now fin) : ∀ (k : Nat) (t : Tk), l[k]? = some t → (jdg 7 tApp tAnn [tRead] cr us idl ab gr (l.length : Int) tk st en 0 t.ti 7 t.tg t.ha t.mi t.sp t.at9 t.ne t.se now = 1 ↔ ((!ed && decide (now < enB cr us idl ab)) = true ∧ k + 1 = l.length)) := by
  intro k t hk
  obtain ⟨z, hz, _⟩ := h.spk (List.getElem?_eq_some_iff.1 hk).1
  rw [h.verd hk hz]
  unfold vdt
  cases ed
  · by_cases hE : now < enB cr us idl ab
    · by_cases e : k + 1 = l.length
      · simp [hE, e, show ¬ enB cr us idl ab ≤ now by omega]
      · by_cases hg : now - z < gr <;> simp [hE, e, hg, show ¬ enB cr us idl ab ≤ now by omega]
    · simp [hE, show enB cr us idl ab ≤ now by omega]
  · simp
theorem Iv.end2 (h : Iv cr idl ab gr us tk st en l sp ed now fin) : (!ed && decide (now < enB cr us idl ab)) = true → endV cr us idl ab st en = enB cr us idl ab ∧ (l.length : Int) = l.length := by
  intro q
  cases ed
  · exact ⟨h.end1 rfl, rfl⟩
  · cases q
/-- Where the family goes on, it may not go. -/
theorem Iv.ov0 (h : Iv cr idl ab gr us tk st en l sp ed now fin) (he : ed = false) (hn : now < enB cr us idl ab) (re : Int) : ovF cr us idl ab st en re now = false := by
  unfold ovF
  rw [h.alvM, he]
  simp [hn]
theorem Iv.ov1 (h : Iv cr idl ab gr us tk st en l sp ed now fin) (he : ed = true) : ovF cr us idl ab st en (now - fin + 1) now = false ∧ ovF cr us idl ab st en (now - fin) now = true := by
  obtain ⟨a, b, c, d⟩ := h.s1 he
  have := h.c0; have := h.c1; have := h.c2; have := h.c3; have := h.c4
  have hE : endV cr us idl ab st en = fin := by
    unfold endV
    rw [if_neg (by rcases a with q | q <;> omega), b]
    exact nr_id ⟨by omega, by omega⟩
  have h1 : nr (now - fin + 1) = now - fin + 1 := nr_id ⟨by omega, by omega⟩
  have h2 : nr (now - fin) = now - fin := nr_id ⟨by omega, by omega⟩
  unfold ovF
  rw [h.alvM, he, hE, h1, h2, h.nrn]
  simp
  omega
/-- Time goes on. -/
theorem Iv.later (h : Iv cr idl ab gr us tk st en l sp ed now fin) {now2 : Int} (h1 : now ≤ now2) (h2 : now2 ≤ 1099511627776) (h3 : now2 ≤ cr + 2940) : Iv cr idl ab gr us tk st en l sp ed now2 fin :=
  ⟨h.n1, h.n2, h.hsp, h.htk, h.c0, h.c1, by have := h.c2; omega, h2, h3, h.i1, h.i2, h.i3, h.s0, fun e => by obtain ⟨a, b, c, d⟩ := h.s1 e; exact ⟨a, b, c, by omega⟩, h.tok, h.spb⟩
/-- The family ends. -/
theorem Iv.stop (h : Iv cr idl ab gr us tk st en l sp ed now fin) {s2 : Int} (hs : s2 = 3 ∨ s2 = 4) : Iv cr idl ab gr us tk s2 now l sp true now now :=
  ⟨h.n1, h.n2, h.hsp, h.htk, h.c0, h.c1, h.c2, h.c3, h.c4, h.i1, h.i2, h.i3, (fun e => by cases e), (fun _ => ⟨hs, rfl, h.c2, Int.le_refl _⟩), h.tok, h.spb⟩
theorem Iv.finE (h : Iv cr idl ab gr us tk st en l sp ed now fin) (he : ed = false) {s2 : Int} (hs : s2 = 3 ∨ s2 = 4) : Go.Proofs.YtmjaobddgaglhaaGreatDoor.finE (famOK 7 tApp tAnn [tRead] cr us idl ab gr (l.length : Int) tk st en 0) st s2 us (nr now) = 0 := by
  rw [h.fam, h.nrn]
  unfold Go.Proofs.YtmjaobddgaglhaaGreatDoor.finE
  rw [if_pos ⟨rfl, (h.s0 he).1, by rcases hs with rfl | rfl <;> rfl, h.c2⟩]
/-- The last token is rotated. -/
theorem Iv.turn (h : Iv cr idl ab gr us tk st en l sp ed now fin) (he : ed = false) (hl : l.length ≤ 60) {k : Nat} {t : Tk} (hk : l[k]? = some t) (hkn : k + 1 = l.length) (hh : Bs) (h32 : hh.length = 32) : Iv cr idl ab gr now (10 + (l.length : Int)) st en (l.set k ⟨t.ti, t.tg, t.ha, t.mi, true, now, 10 + (l.length : Int), tSec⟩ ++ [⟨10 + (l.length : Int), (l.length : Int) + 1, hh, now, false, 0, 0, []⟩]) (sp.set k now ++ [0]) ed now fin := by
  have := h.c0; have := h.c1; have := h.c2; have := h.c3; have := h.c4
  have hsp := h.hsp
  have hlen : (l.set k ⟨t.ti, t.tg, t.ha, t.mi, true, now, 10 + (l.length : Int), tSec⟩ ++ [(⟨10 + (l.length : Int), (l.length : Int) + 1, hh, now, false, 0, 0, []⟩ : Tk)]).length = l.length + 1 := by simp
  refine ⟨by omega, by omega, by rw [hlen]; simp [hsp], by rw [hlen]; push_cast; omega, h.c0, by omega, Int.le_refl _, h.c3, h.c4, h.i1, h.i2, h.i3, h.s0, (fun e => by rw [he] at e; cases e), ?_, ?_⟩
  · intro j u hj
    rw [hlen]
    obtain ⟨b1, b2, b3, b4, b5, b6, b7⟩ := h.tok k t hk
    by_cases hjl : j < l.length
    · rw [List.getElem?_append_left (by simpa using hjl)] at hj
      by_cases hjk : j = k
      · subst hjk
        rw [List.getElem?_set_self hjl] at hj
        obtain rfl := Option.some.inj hj
        refine ⟨b1, b2, b3, b4, by show t.mi ≤ now; omega, fun e => by omega, fun _ => ⟨rfl, ?_, by show t.mi ≤ now; omega, Int.le_refl _, by show 10 + (l.length : Int) = 11 + (j : Int); omega, rfl⟩⟩
        show (sp.set j now ++ [0])[j]? = some now
        rw [List.getElem?_append_left (by simp; omega), List.getElem?_set_self (by omega)]
      · rw [List.getElem?_set_ne (Ne.symm hjk)] at hj
        obtain ⟨d1, d2, d3, d4, d5, d6, d7⟩ := h.tok j u hj
        obtain ⟨e1, e2, e3, e4, e5, e6⟩ := d7 (by omega)
        refine ⟨d1, d2, d3, d4, by omega, fun e => by omega, fun _ => ⟨e1, ?_, e3, by omega, e5, e6⟩⟩
        rw [List.getElem?_append_left (by simp; omega), List.getElem?_set_ne (Ne.symm hjk)]
        exact e2
    · have hj2 := (List.getElem?_eq_some_iff.1 hj).1
      rw [hlen] at hj2
      have hje : j = l.length := by omega
      subst hje
      rw [List.getElem?_append_right (by simp)] at hj
      simp at hj
      subst hj
      exact ⟨rfl, rfl, h32, by show 0 ≤ now; omega, Int.le_refl _, fun _ => ⟨rfl, rfl, rfl, rfl⟩, fun e => by omega⟩
  · intro j z hj
    by_cases hjl : j < sp.length
    · rw [List.getElem?_append_left (by simpa using hjl)] at hj
      by_cases hjk : j = k
      · subst hjk
        rw [List.getElem?_set_self hjl] at hj
        obtain rfl := Option.some.inj hj
        omega
      · rw [List.getElem?_set_ne (Ne.symm hjk)] at hj
        have := h.spb j z hj
        omega
    · have hj2 := (List.getElem?_eq_some_iff.1 hj).1
      simp at hj2
      have hje : j = sp.length := by omega
      subst hje
      rw [List.getElem?_append_right (by simp)] at hj
      simp at hj
      subst hj
      omega
end
/-- What pick answers. -/
def pkv (c n : Int) : Int := (if c < 0 then -(c + 1) else c).tmod n
theorem pkv_b (c n : Int) (h : 0 < n) : 0 ≤ pkv c n ∧ pkv c n < n := by
  unfold pkv
  split
  · exact ⟨Int.tmod_nonneg _ (by omega), Int.tmod_lt_of_pos _ h⟩
  · exact ⟨Int.tmod_nonneg _ (by omega), Int.tmod_lt_of_pos _ h⟩
theorem pick_any (c n : Int) (w : World) (hn : 0 < n) (hn2 : n ≤ 9223372036854775807) (hc : -9223372036854775808 ≤ c ∧ c ≤ 9223372036854775807) : Calls Tryz.prog 27 #[I c, I n] w fun e w' => e = .returned (I (pkv c n)) ∧ w' = w := by
  have HP : Hid (pkv c n = (if c < 0 then -(c + 1) else c).tmod n) := hide rfl
  have hb := pkv_b c n hn
  obtain ⟨c1, c2⟩ := hc
  by_cases h : c < 0
  · have HQ := hide (show pkv c n = -((c + 1).tmod n) by rw [unhide HP, if_pos h, Int.neg_tmod])
    have hm1 : 0 ≤ (-(c + 1)).tmod n := Int.tmod_nonneg _ (by omega)
    have hm2 := Int.tmod_lt_of_pos (-(c + 1)) hn
    clear HP hb
    generalize pkv c n = p at *
    go_enter Tryz.func27, Tryz.ntmps27
    go_wp2
    go_ret
    exact ⟨by rw [unhide HQ]; rfl, rfl⟩
  · have HQ := hide (show pkv c n = c % n by rw [unhide HP, if_neg h, Int.tmod_eq_emod_of_nonneg (by omega)])
    have hm1 : 0 ≤ c.tmod n := Int.tmod_nonneg _ (by omega)
    have hm2 := Int.tmod_lt_of_pos c hn
    have d1 : decide (c < 0) = false := by simpa using h
    clear HP hb
    generalize pkv c n = p at *
    go_enter Tryz.func27, Tryz.ntmps27
    go_wp2
    go_ret
    exact ⟨by rw [unhide HQ]; rfl, rfl⟩
end Go.Proofs.YtmjaobddgaglhaaGreatDoor
