import Derived.Test.YtbmcaejbfjpmiaaDoorRgp
namespace Go.Proofs.YtbmcaejbfjpmiaaDoor
open Go.RowKit Go.Lib
/-- What holds of the world within the statement that adds a field. -/
def Wd24 (wr : World) (L : Nat → Bool) (W : World) : Prop := Below wr.heap.size wr W ∧ (L 16 = true → L 0 = true)
theorem Wd24.upd {wr : World} {L : Nat → Bool} {W W' : World} (h : Wd24 wr L W) (i : Nat) (hi : i ≠ 16) (hb : Below wr.heap.size wr W') : Wd24 wr (upd L i) W' := by
  refine ⟨hb, fun q => ?_⟩
  have e : Go.Proofs.YtbmcaejbfjpmiaaDoor.upd L i 16 = L 16 := by simp [Go.Proofs.YtbmcaejbfjpmiaaDoor.upd, Ne.symm hi]
  rw [e] at q
  have := h.2 q
  by_cases h0 : 0 = i
  · simp [Go.Proofs.YtbmcaejbfjpmiaaDoor.upd, h0]
  · simp [Go.Proofs.YtbmcaejbfjpmiaaDoor.upd, h0, this]
set_option maxHeartbeats 4000000 in
set_option maxRecDepth 8000 in
theorem refPrint_any (a : Option Addr) (n cap : Nat) (fs : List Fl) (w : World) (hp : Fls w a n fs) (hs : siz fs ≤ 10000000000) :
    Calls Tryd.prog 24 #[.slice a n cap] w fun e w' => e = .returned (.string ⟨(prt fs).toArray⟩) ∧ Below w.heap.size w w' := by
  have HP := hide hp
  have HN := hide hp.1
  have hnl : n ≤ siz fs := by have := siz_len fs; have := hp.1; omega
  clear hp
  go_enter Tryd.func24, Tryd.ntmps24
  go_wp2
  go_loopw [3, 4] (fun s i wr => ∃ k : Nat, k ≤ n ∧ i = .int .i64 k ∧ s = S (prt (fs.take k)) ∧ Below w.heap.size w wr) (fun _ i _ => n - (Go.RowKit.intOf i).toNat)
  case atStart => exact ⟨0, by omega, rfl, rfl, Below.refl _ _⟩
  case round =>
    obtain ⟨k, hk, rfl, rfl, hbr⟩ := hrel
    by_cases hlt : k < n
    · obtain ⟨p, o, rfl, hpl, hc0, hc1⟩ := ((unhide HP).below hbr).at hlt
      have hpa := hide (prt_at fs k (by have := unhide HN; omega))
      have hprl := prt_len fs k (by have := unhide HN; omega)
      have hsl := siz_take_le fs k
      have hsg := siz_get fs k
      generalize fs.getD k f0 = F at *
      obtain ⟨fn, fv⟩ := F
      simp only at hc0 hc1 hsg
      have EC0 : Hid (∀ W, Below wr.heap.size wr W → W.cell? ⟨p, o + k * 2 + 0, none⟩ = some (S fn)) := hide (fun W h => (h.cell (p := ⟨p, o + k * 2, none⟩) hpl).trans hc0)
      have EC1 : Hid (∀ W, Below wr.heap.size wr W → W.cell? ⟨p, o + k * 2 + 1, none⟩ = some (S fv)) := hide (fun W h => (h.cell (p := ⟨p, o + k * 2 + 1, none⟩) hpl).trans hc1)
      have q1 := hide (fun W => refEscape_any fn W (by omega))
      have q2 := hide (fun W => refEscape_any fv W (by omega))
      have hef := esc_len fn
      have hev := esc_len fv
      have hO : (prt (fs.take k)).length ≤ 30000000000 := by omega
      have hE1 : (esc fn).length ≤ 30000000000 := by omega
      have hE2 : (esc fv).length ≤ 30000000000 := by omega
      have hpaF : Hid (fld (fn, fv) = esc fn ++ 61 :: esc fv) := hide rfl
      generalize prt (fs.take k) = O at *
      generalize esc fn = E1 at *
      generalize esc fv = E2 at *
      clear hef hev hprl hsl hc0 hc1
      have hlt' : (k : Int) < (n : Int) := by omega
      by_cases hk0 : k = 0
      · subst hk0
        rw [if_pos rfl, List.nil_append] at hpa
        go_wp2_with fail
        refine rgp p o n cap 0 (O) fn fv E1 E2 rfl rfl rfl _ _ (show 31 ≤ 32 from by decide) rfl rfl rfl (Wd24 wr) ?h0 ?hp ?hcl ?hp16 hlt hlt ?l5 ?l13 ?c6 ?c14 (by first | omega | (simp; omega)) (by simp; omega) (by simp; omega) ?_
        case h0 => exact ⟨(Below.refl _ _).drew, fun q => by cases q⟩
        case hp =>
          intro i hi L W hW
          exact hW.upd i (by intro e; subst e; simp at hi) hW.1
        case hcl => exact fun L W hW h => hW.2 h
        case hp16 =>
          intro L W hW h
          refine ⟨hW.1, fun _ => ?_⟩
          simp [Go.Proofs.YtbmcaejbfjpmiaaDoor.upd, h]
        case l5 => exact fun L W hW => unhide EC0 W hW.1
        case l13 => exact fun L W hW => unhide EC1 W hW.1
        case c6 =>
          intro L W hW _
          refine (unhide q1 W).mono ?_
          rintro e w2 ⟨rfl, hb⟩
          exact ⟨rfl, hW.upd 6 (by decide) (hW.1.trans (hb.mono hW.1.size))⟩
        case c14 =>
          intro L W hW _
          refine (unhide q2 W).mono ?_
          rintro e w2 ⟨rfl, hb⟩
          exact ⟨rfl, hW.upd 14 (by decide) (hW.1.trans (hb.mono hW.1.size))⟩
        intro L W _ hW
        have hB := hide (hbr.trans (hW.1.mono hbr.size))
        have hpa2 := hide (show prt (fs.take (0 + 1)) = O ++ E1 ++ [61] ++ E2 by rw [unhide hpa, unhide hpaF]; simp)
        clear hW hpa EC0 EC1
        generalize O ++ E1 ++ [61] ++ E2 = R at *
        go_wp2
        refine ⟨⟨0 + 1, by omega, by go_num, ?_, unhide hB⟩, ?_⟩
        · rw [unhide hpa2]
        · simp [Go.RowKit.intOf]; omega
      · have hk1 : (0 : Int) < (k : Int) := by omega
        rw [if_neg hk0] at hpa
        go_wp2_with fail
        refine rgp p o n cap k (O ++ [38]) fn fv E1 E2 rfl rfl rfl _ _ (show 31 ≤ 32 from by decide) rfl rfl rfl (Wd24 wr) ?h0 ?hp ?hcl ?hp16 hlt hlt ?l5 ?l13 ?c6 ?c14 (by first | omega | (simp; omega)) (by simp; omega) (by simp; omega) ?_
        case h0 => exact ⟨(Below.refl _ _).drew, fun q => by cases q⟩
        case hp =>
          intro i hi L W hW
          exact hW.upd i (by intro e; subst e; simp at hi) hW.1
        case hcl => exact fun L W hW h => hW.2 h
        case hp16 =>
          intro L W hW h
          refine ⟨hW.1, fun _ => ?_⟩
          simp [Go.Proofs.YtbmcaejbfjpmiaaDoor.upd, h]
        case l5 => exact fun L W hW => unhide EC0 W hW.1
        case l13 => exact fun L W hW => unhide EC1 W hW.1
        case c6 =>
          intro L W hW _
          refine (unhide q1 W).mono ?_
          rintro e w2 ⟨rfl, hb⟩
          exact ⟨rfl, hW.upd 6 (by decide) (hW.1.trans (hb.mono hW.1.size))⟩
        case c14 =>
          intro L W hW _
          refine (unhide q2 W).mono ?_
          rintro e w2 ⟨rfl, hb⟩
          exact ⟨rfl, hW.upd 14 (by decide) (hW.1.trans (hb.mono hW.1.size))⟩
        intro L W _ hW
        have hB := hide (hbr.trans (hW.1.mono hbr.size))
        have hpa2 := hide (show prt (fs.take (k + 1)) = O ++ [38] ++ E1 ++ [61] ++ E2 by rw [unhide hpa, unhide hpaF]; simp)
        clear hW hpa EC0 EC1
        generalize O ++ [38] ++ E1 ++ [61] ++ E2 = R at *
        go_wp2
        refine ⟨⟨k + 1, by omega, by go_num, ?_, unhide hB⟩, ?_⟩
        · rw [unhide hpa2]
        · simp [Go.RowKit.intOf]; omega
    · have hd : decide (k < n) = false := by simp; omega
      have e : fs.take k = fs := List.take_of_length_le (by have := unhide HN; omega)
      rw [e]
      clear e
      go_wp2
      go_ret
      exact ⟨rfl, hbr⟩
end Go.Proofs.YtbmcaejbfjpmiaaDoor
