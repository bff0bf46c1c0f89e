import Derived.Test.YtbmcaejbfjpmiaaDoorRpa
namespace Go.Proofs.YtbmcaejbfjpmiaaDoor
open Go.RowKit Go.Lib
/-- The texts that a piece is cut into, where they stand. -/
theorem piece_at (l P : List UInt8) (fr : Nat) (hP : P = hd 38 (l.drop fr)) (hf : fr ≤ l.length) :
    fr + P.length ≤ l.length ∧ (∀ a b, a ≤ b → b ≤ P.length → (l.drop (fr + a)).take (b - a) = (P.drop a).take (b - a)) ∧ (∀ j, j < P.length → l[fr + j]? = P[j]?) := by
  have h1 := hd_le 38 (l.drop fr)
  have h2 := hd_take 38 (l.drop fr)
  rw [← hP] at h1 h2
  rw [List.length_drop] at h1
  refine ⟨by omega, fun a b hab hb => ?_, fun j hj => ?_⟩
  · have e : (P.drop a).take (b - a) = (((l.drop fr).take P.length).drop a).take (b - a) := by rw [h2]
    rw [e, List.drop_take, List.take_take, List.drop_drop]
    congr 1
    omega
  · have e : P[j]? = ((l.drop fr).take P.length)[j]? := by rw [h2]
    rw [e, List.getElem?_take, if_pos hj, List.getElem?_drop]
theorem pc_name (P : List UInt8) (h : P ≠ []) (e p : Nat) (hr : rd (hd 61 P) = .error (e, p)) : pc P = .error (e, p) := by
  unfold pc
  rw [if_neg h, hr]
theorem pc_value (P : List UInt8) (h : P ≠ []) (nm : List UInt8) (hr : rd (hd 61 P) = .ok nm) (e p : Nat) (hv : rd (tl 61 P) = .error (e, p)) : pc P = .error (e, (hd 61 P).length + 1 + p) := by
  unfold pc
  rw [if_neg h, hr]
  simp only
  rw [hv]
theorem pc_both (P : List UInt8) (h : P ≠ []) (nm vl : List UInt8) (hr : rd (hd 61 P) = .ok nm) (hv : rd (tl 61 P) = .ok vl) : pc P = .ok (nm, vl) := by
  unfold pc
  rw [if_neg h, hr]
  simp only
  rw [hv]
/-- How far the document's Parse has come. -/
def FarR (l : List UInt8) (fs : List Fl) (fr : Nat) : Prop :=
  fs.length ≤ 32 ∧ ((fr ≤ l.length ∧ parse l = addl fs fr (prs (32 - fs.length) (l.drop fr))) ∨ (fr = l.length + 1 ∧ parse l = .ok fs))
theorem FarR.next {l P : List UInt8} {fs : List Fl} {fr to : Nat} {f : Fl} (hlt : fs.length < 32) (hfl : fr ≤ l.length) (hPl : fr + P.length ≤ l.length) (hto : to = fr + P.length) (hpr : parse l = addl fs fr (prs (32 - fs.length) (l.drop fr)))
    (hNx : P.length < l.length - fr → addl fs fr (prs (32 - fs.length) (l.drop fr)) = addl (fs ++ [f]) (fr + (P.length + 1)) (prs (32 - (fs ++ [f]).length) ((l.drop fr).drop (P.length + 1))))
    (hLa : ¬ P.length < l.length - fr → addl fs fr (prs (32 - fs.length) (l.drop fr)) = .ok (fs ++ [f])) : FarR l (fs ++ [f]) (to + 1) := by
  refine ⟨by simp; omega, ?_⟩
  by_cases h : P.length < l.length - fr
  · left
    refine ⟨by omega, ?_⟩
    rw [hpr, hNx h, List.drop_drop]
    rw [show fr + (P.length + 1) = to + 1 by omega]
  · right
    refine ⟨by omega, ?_⟩
    rw [hpr, hLa h]
theorem FarR.start {l : List UInt8} (h : l ≠ []) : FarR l [] 0 := by
  refine ⟨by simp, .inl ⟨by omega, ?_⟩⟩
  rw [addl_nil]
  unfold parse
  rw [if_neg h]
  rfl
set_option maxHeartbeats 8000000 in
set_option maxRecDepth 8000 in
theorem refParse_any (l : List UInt8) (w : World) (hl : l.length ≤ 1099511627776) :
    Calls Tryd.prog 15 #[S l] w fun e w' => Told l e w w' := by
  by_cases hnil : l = []
  · subst hnil
    go_enter Tryd.func15, Tryd.ntmps15
    go_wp2
    go_ret3
    exact Told.ok (fs := []) rfl (OwnF.nil w)
  · have hne : (l == []) = false := by simpa using hnil
    have HST := hide (FarR.start hnil)
    clear hnil
    obtain ⟨X, hX⟩ : ∃ X : ByteArray, X = ⟨l.toArray⟩ := ⟨_, rfl⟩
    have hsz : X.size = l.length := by rw [hX]; simp [ByteArray.size]
    have hxe : ∀ a b, X.extract a b = ⟨((l.drop a).take (b - a)).toArray⟩ := by
      intro a b
      subst hX
      rw [extract_eq]
    have hXl : X.toList.isEmpty = false := by
      subst hX
      rw [ByteArray.toList_mk]
      cases l with
      | nil => simp at hne
      | cons c l => rfl
    have hXl2 : X.toList = l := by subst hX; rw [ByteArray.toList_mk]
    have hat : ∀ (k : Nat) (hk : k < X.size) (hk' : k < l.length), X[k]'hk = l[k] := by subst hX; intro k hk hk'; rfl
    have HEnd : Hid (∀ (fr : Nat) (W : World), fr ≤ l.length → Calls Tryd.prog 32 #[.string X, .int .i64 (fr : Int)] W fun e w' => e = .returned (.int .i64 ((fr + (hd 38 (l.drop fr)).length : Nat) : Int)) ∧ w' = W) := hide (fun fr W h => by rw [hX]; exact end_any l fr W hl h)
    have HXE := hide hxe
    have HAT := hide hat
    show Calls Tryd.prog 15 #[.string ⟨l.toArray⟩] w _
    rw [← hX]
    clear hX hxe hat
    go_enter Tryd.func15, Tryd.ntmps15
    go_wp2_with fail
    go_loopw [5, 6] (fun v i wr => ∃ (fs : List Fl) (fr : Nat), i = .int .i64 (fr : Int) ∧ FarR l fs fr ∧ OwnF w.heap.size v fs w wr) (fun _ i _ => l.length + 1 - (Go.RowKit.intOf i).toNat)
    case atStart => exact ⟨[], 0, rfl, unhide HST, OwnF.nil w⟩
    case round =>
      obtain ⟨fs, fr, rfl, ⟨h32, ⟨hfl, hpr⟩ | ⟨rfl, hpr⟩⟩, hown⟩ := hrel
      · clear HST
        obtain ⟨p5, cap5, hv⟩ := hown.len
        subst hv
        have HO := hide hown
        have HPR := hide hpr
        clear hown hpr
        have ifl : (fr : Int) ≤ (l.length : Int) := by omega
        by_cases hm : fs.length = 32
        · have hEr := hide (show parse l = .error (32, fr) by rw [unhide HPR, prs_many _ _ _ hm])
          have hm' : (fs.length : Int) = 32 := by omega
          clear hm
          go_wp2
          go_ret3
          exact Told.err (unhide hEr) (unhide HO).2.1
        · have hm' : ¬ (fs.length : Int) = 32 := by omega
          have hlt : fs.length < 32 := by omega
          obtain ⟨P, hP⟩ : ∃ P, P = hd 38 (l.drop fr) := ⟨_, rfl⟩
          obtain ⟨hPl, hcut, hPat⟩ := piece_at l P fr hP hfl
          have HE1 := hide (unhide HEnd fr wr hfl)
          rw [← hP] at HE1
          have hNx := hide (fun f (h : pc P = .ok f) (h2 : P.length < (l.drop fr).length) => prs_next (l.drop fr) fs fr f hlt (hP ▸ h) (hP ▸ h2))
          have hLa := hide (fun f (h : pc P = .ok f) (h2 : ¬ P.length < (l.drop fr).length) => prs_last (l.drop fr) fs fr f hlt (hP ▸ h) (hP ▸ h2))
          have hPe := hide (fun e q (h : pc P = .error (e, q)) => prs_err (l.drop fr) fs fr e q hlt (hP ▸ h))
          rw [← hP] at hNx
          rw [List.length_drop] at hNx hLa
          have HCUT := hide hcut
          have HPA := hide hPat
          clear hP hcut hPat
          obtain ⟨to, hto⟩ : ∃ to, to = fr + P.length := ⟨_, rfl⟩
          rw [← hto] at HE1
          have HTO := hide hto
          have htl : to ≤ l.length := by omega
          clear hto
          go_wp2_with fail
          refine (unhide HE1).mono ?_
          rintro e w1 ⟨rfl, rfl⟩
          clear HE1
          by_cases hP0 : P = []
          · have hEr := hide (show parse l = .error (31, fr) by rw [unhide HPR, unhide hPe 31 0 (by rw [hP0]; rfl)]; rfl)
            have hte : to = fr := by rw [unhide HTO, hP0]; rfl
            subst hte
            clear hP0
            go_wp2
            go_ret3
            exact Told.err (unhide hEr) (unhide HO).2.1
          · have hpos : 0 < P.length := List.length_pos_iff.2 hP0
            have hte : ¬ (to : Int) = (fr : Int) := by have := unhide HTO; omega
            have HP0 := hide hP0
            clear hP0
            go_wp2_with fail
            go_loopw [8] (fun i wq => ∃ k : Nat, k ≤ P.length ∧ i = .int .i64 ((fr + k : Nat) : Int) ∧ (∀ j, j < k → P[j]? ≠ some 61) ∧ wq = w1) (fun i _ => to - (Go.RowKit.intOf i).toNat)
            case atStart => exact ⟨0, by omega, rfl, fun j hj => by omega, rfl⟩
            case round =>
              obtain ⟨k, hk, rfl, hno, rfl⟩ := hrel
              obtain ⟨q, hq⟩ : ∃ q, q = fr + k := ⟨_, rfl⟩
              rw [← hq]
              by_cases hlk : k < P.length
              · have hql : q < l.length := by omega
                have hqs : q < X.size := by omega
                have hC0 : X[q]'hqs = l[q] := unhide HAT q hqs hql
                have hPk : P[k]? = some l[q] := by
                  rw [← unhide HPA k hlk, ← hq, List.getElem?_eq_getElem hql]
                have i1 : (q : Int) < (to : Int) := by have := unhide HTO; omega
                by_cases e : l[q] = 61
                · have HH := hide (hd_len 61 P k hk hno (.inr (by rw [hPk, e])))
                  have e2 : ((X[q]'hqs).toNat : Int) = 61 := by rw [hC0, e]; rfl
                  have e4 : (((X[q]'hqs).toNat : Int) != 61) = false := by rw [e2]; rfl
                  clear hC0 e hno hPk
                  obtain ⟨H, hH⟩ : ∃ H, H = hd 61 P := ⟨_, rfl⟩
                  have hHk : H.length = k := by rw [hH]; exact unhide HH
                  have HX1 : Hid (X.extract fr q = ⟨H.toArray⟩) := hide (by
                    have h1 := unhide HCUT 0 k (by omega) hk
                    rw [Nat.add_zero, List.drop_zero, Nat.sub_zero] at h1
                    rw [unhide HXE, hq, show fr + k - fr = k by omega, h1, ← hHk, hH, hd_take])
                  have HX2 : Hid (X.extract (q + 1) to = ⟨(tl 61 P).toArray⟩) := hide (by
                    have h1 := unhide HCUT (k + 1) P.length (by omega) (by omega)
                    rw [unhide HXE, unhide HTO, hq, show fr + k + 1 = fr + (k + 1) by omega, show fr + P.length - (fr + (k + 1)) = P.length - (k + 1) by omega, h1, List.take_of_length_le (by simp), tl_drop 61 P (by rw [← hH, hHk]; exact hlk), ← hH, hHk])
                  have hHl : H.length ≤ 1099511627776 := by omega
                  have hTl : (tl 61 P).length ≤ 1099511627776 := by
                    rw [tl_drop 61 P (by rw [← hH, hHk]; exact hlk), List.length_drop]
                    omega
                  have HR1 := hide (fun W => read_any H W hHl)
                  have HR2 := hide (fun W => read_any (tl 61 P) W hTl)
                  unfold S at HR1 HR2
                  rw [← unhide HX1] at HR1
                  rw [← unhide HX2] at HR2
                  have i2 : (fr : Int) ≤ (q : Int) := by omega
                  have i3 : (q : Int) ≤ (l.length : Int) := by omega
                  have i4 : (q : Int) + 1 ≤ (to : Int) := by omega
                  have i5 : (to : Int) ≤ (l.length : Int) := by omega
                  have i6 : (0 : Int) ≤ (q : Int) + 1 := by omega
                  have HQq := hide hq
                  have HHk := hide (show H.length = k ∧ H = hd 61 P from ⟨hHk, hH⟩)
                  clear hq hHk hH hHl HX1 HX2
                  obtain ⟨T, hT⟩ : ∃ T, T = tl 61 P := ⟨_, rfl⟩
                  rw [← hT] at HR2
                  have hTl2 : T.length ≤ 1099511627776 := by rw [hT]; exact hTl
                  have HT61 := hide hT
                  clear hT hTl
                  cases hr1 : rd H with
                  | error x =>
                    obtain ⟨ec, pl⟩ := x
                    have hec := (rd_place _ _ _ hr1).2.1
                    have hpl := (rd_place _ _ _ hr1).1
                    have hEr := hide (show parse l = .error (ec, fr + pl) by rw [unhide HPR, unhide hPe ec pl (pc_name P (unhide HP0) ec pl (by rw [← (unhide HHk).2]; exact hr1))])
                    rw [hr1] at HR1
                    simp only [tell3] at HR1
                    have hec0 : ¬ (ec : Int) = 0 := by omega
                    have hbd : fr + pl ≤ 2199023255552 := by have := (unhide HHk).1; omega
                    have hsum := hide (show (fr : Int) + (pl : Int) = ((fr + pl : Nat) : Int) by omega)
                    clear hec hr1
                    go_wp2_with fail
                    refine (unhide HR1 _).mono ?_
                    rintro e w2 ⟨rfl, k2⟩
                    have HB2 := hide ((unhide HO).keep k2).2.1
                    clear k2
                    go_wp2
                    go_ret3
                    have := Told.err (unhide hEr) (unhide HB2)
                    rw [← unhide hsum] at this
                    exact this
                  | ok nm =>
                    rw [hr1] at HR1
                    simp only [tell3] at HR1
                    go_wp2_with fail
                    refine (unhide HR1 _).mono ?_
                    rintro e w2 ⟨rfl, k2⟩
                    have HO2 := hide ((unhide HO).keep k2)
                    clear k2
                    have HR3 := hide (unhide HR2 w2)
                    cases hr2 : rd T with
                    | error x =>
                      obtain ⟨ec, pl⟩ := x
                      have hec := (rd_place _ _ _ hr2).2.1
                      have hpl := (rd_place _ _ _ hr2).1
                      have hEr := hide (show parse l = .error (ec, fr + ((hd 61 P).length + 1 + pl)) by rw [unhide HPR, unhide hPe ec _ (pc_value P (unhide HP0) nm (by rw [← (unhide HHk).2]; exact hr1) ec pl (by rw [← unhide HT61]; exact hr2))])
                      rw [hr2] at HR3
                      simp only [tell3] at HR3
                      have hec0 : ¬ (ec : Int) = 0 := by omega
                      have hbd : pl ≤ 1099511627776 := by omega
                      have hsum := hide (show (q : Int) + 1 + (pl : Int) = ((fr + ((hd 61 P).length + 1 + pl) : Nat) : Int) by
                        have h1 := unhide HQq
                        have h2 := (unhide HHk).1
                        rw [(unhide HHk).2] at h2
                        omega)
                      clear hec hr2 hr1
                      go_wp2_with fail
                      refine (unhide HR3).mono ?_
                      rintro e w3 ⟨rfl, k3⟩
                      have HB3 := hide ((unhide HO2).keep k3).2.1
                      clear k3
                      go_wp2
                      go_ret3
                      have := Told.err (unhide hEr) (unhide HB3)
                      rw [← unhide hsum] at this
                      exact this
                    | ok vl =>
                      have hpc := pc_both P (unhide HP0) nm vl (by rw [← (unhide HHk).2]; exact hr1) (by rw [← unhide HT61]; exact hr2)
                      have HFAR := hide (FarR.next (f := (nm, vl)) hlt hfl hPl (unhide HTO) (unhide HPR) (fun h => unhide hNx _ hpc h) (fun h => unhide hLa _ hpc h))
                      rw [hr2] at HR3
                      simp only [tell3] at HR3
                      clear hr2 hr1 hpc
                      go_wp2_with fail
                      refine (unhide HR3).mono ?_
                      rintro e w3 ⟨rfl, k3⟩
                      have HO3 := hide ((unhide HO2).keep k3)
                      clear k3
                      go_wp2_with (at_builtin; refine pushF rfl (.tmp 77) (.tmp 81) rfl w.heap.size _ fs (by rfl) w _ (nm, vl) (unhide HO3) (by rfl) (by omega) ?_; intro v2 w4 hb2)
                      go_roundw
                      case rel => exact ⟨fs ++ [(nm, vl)], to + 1, by go_num, unhide HFAR, hb2⟩
                      case measure => have := unhide HTO; simp [Go.RowKit.intOf]; omega
                · have e2 : (((X[q]'hqs).toNat : Int) == 61) = false := by
                    rw [hC0]
                    simp only [beq_eq_false_iff_ne, ne_eq]
                    intro h
                    exact e (UInt8.toNat_inj.1 (by show l[q].toNat = 61; omega))
                  have e4 : (((X[q]'hqs).toNat : Int) != 61) = true := by simp only [bne, e2]; rfl
                  have e5 : ¬ ((X[q]'hqs).toNat : Int) = 61 := by simpa using e2
                  have HNO : Hid (∀ j, j < k + 1 → P[j]? ≠ some 61) := hide (fun j hj => by
                    rcases Nat.lt_or_ge j k with h | h
                    · exact hno j h
                    · obtain rfl : j = k := by omega
                      rw [hPk]
                      exact fun h => e (Option.some.inj h))
                  have HQq := hide hq
                  clear hC0 e hno hPk hq
                  go_wp2
                  go_roundw
                  case rel => exact ⟨k + 1, by omega, by have := unhide HQq; congr 1; omega, unhide HNO, trivial⟩
                  case measure => have := unhide HTO; have := unhide HQq; simp [Go.RowKit.intOf]; omega
              · obtain rfl : k = P.length := by omega
                have hH : hd 61 P = P ∧ tl 61 P = [] := by
                  have h1 := hd_len 61 P P.length (Nat.le_refl _) hno (.inl rfl)
                  rcases hd_tl 61 P with ⟨_, h2, h3⟩ | h2
                  · exact ⟨h2, h3⟩
                  · have h3 := congrArg List.length h2
                    rw [List.length_append, List.length_cons] at h3
                    omega
                have HX1 : Hid (X.extract fr q = ⟨P.toArray⟩) := hide (by
                  have h1 := unhide HCUT 0 P.length (by omega) (Nat.le_refl _)
                  rw [Nat.add_zero, List.drop_zero, Nat.sub_zero, List.take_length] at h1
                  rw [unhide HXE, hq, show fr + P.length - fr = P.length by omega, h1])
                have HR1 := hide (fun W => read_any P W (by omega))
                unfold S at HR1
                rw [← unhide HX1] at HR1
                have hqt : q = to := by rw [hq, unhide HTO]
                subst hqt
                have i2 : (fr : Int) ≤ (q : Int) := by omega
                have i3 : (q : Int) ≤ (l.length : Int) := by omega
                have HHH := hide hH
                have hd1 : decide (q < q) = false := by simp
                clear hq hno hlk HX1 hH
                cases hr1 : rd P with
                | error x =>
                  obtain ⟨ec, pl⟩ := x
                  have hec := (rd_place _ _ _ hr1).2.1
                  have hpl := (rd_place _ _ _ hr1).1
                  have hEr := hide (show parse l = .error (ec, fr + pl) by rw [unhide HPR, unhide hPe ec pl (pc_name P (unhide HP0) ec pl (by rw [(unhide HHH).1]; exact hr1))])
                  rw [hr1] at HR1
                  simp only [tell3] at HR1
                  have hec0 : ¬ (ec : Int) = 0 := by omega
                  have hbd : fr + pl ≤ 2199023255552 := by omega
                  have hsum := hide (show (fr : Int) + (pl : Int) = ((fr + pl : Nat) : Int) by omega)
                  clear hec hr1
                  go_wp2_with fail
                  refine (unhide HR1 _).mono ?_
                  rintro e w2 ⟨rfl, k2⟩
                  have HB2 := hide ((unhide HO).keep k2).2.1
                  clear k2
                  go_wp2
                  go_ret3
                  have := Told.err (unhide hEr) (unhide HB2)
                  rw [← unhide hsum] at this
                  exact this
                | ok nm =>
                  have hpc := pc_both P (unhide HP0) nm [] (by rw [(unhide HHH).1]; exact hr1) (by rw [(unhide HHH).2]; rfl)
                  have HFAR := hide (FarR.next (f := (nm, [])) hlt hfl hPl (unhide HTO) (unhide HPR) (fun h => unhide hNx _ hpc h) (fun h => unhide hLa _ hpc h))
                  rw [hr1] at HR1
                  simp only [tell3] at HR1
                  clear hr1 hpc
                  go_wp2_with fail
                  refine (unhide HR1 _).mono ?_
                  rintro e w2 ⟨rfl, k2⟩
                  have HO2 := hide ((unhide HO).keep k2)
                  clear k2
                  go_wp2_with (at_builtin; refine pushF rfl (.tmp 77) (.tmp 81) rfl w.heap.size _ fs (by rfl) w _ (nm, []) (unhide HO2) (by rfl) (by omega) ?_; intro v2 w4 hb2)
                  go_roundw
                  case rel => exact ⟨fs ++ [(nm, [])], q + 1, by go_num, unhide HFAR, hb2⟩
                  case measure => simp [Go.RowKit.intOf]; omega
      · have HO := hide hown
        have HPR := hide hpr
        have hd1 : ¬ ((l.length + 1 : Nat) : Int) ≤ (l.length : Int) := by omega
        have hd2 : decide (((l.length + 1 : Nat) : Int) ≤ (l.length : Int)) = false := decide_eq_false hd1
        have hd3 : decide ((l.length : Int) + 1 ≤ (l.length : Int)) = false := decide_eq_false (by omega)
        clear hown hpr
        go_wp2
        go_ret3
        exact Told.ok (unhide HPR) (unhide HO)
end Go.Proofs.YtbmcaejbfjpmiaaDoor
