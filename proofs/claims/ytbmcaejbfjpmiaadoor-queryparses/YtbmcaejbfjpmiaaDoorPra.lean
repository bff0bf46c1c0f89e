import Derived.Test.YtbmcaejbfjpmiaaDoorOwf
namespace Go.Proofs.YtbmcaejbfjpmiaaDoor
open Go.RowKit Go.Lib
/-- What Parse answers, and where what it answers lies. -/
def Told (l : List UInt8) (e : Ending) (w w' : World) : Prop :=
  Below w.heap.size w w' ∧ match parse l with
    | .ok fs => ∃ v, e = .returned (.tuple #[v, .int .i64 0, .int .i64 0]) ∧ OwnF w.heap.size v fs w w'
    | .error (ec, p) => e = .returned (.tuple #[.slice none 0 0, .int .i64 (ec : Nat), .int .i64 (p : Nat)])
theorem Told.err {l : List UInt8} {w w' : World} {ec p : Nat} (h : parse l = .error (ec, p)) (b : Below w.heap.size w w') : Told l (.returned (.tuple #[.slice none 0 0, .int .i64 (ec : Nat), .int .i64 (p : Nat)])) w w' := by
  unfold Told
  rw [h]
  exact ⟨b, rfl⟩
theorem Told.ok {l : List UInt8} {w w' : World} {fs : List Fl} {v : Value} (h : parse l = .ok fs) (b : OwnF w.heap.size v fs w w') : Told l (.returned (.tuple #[v, .int .i64 0, .int .i64 0])) w w' := by
  unfold Told
  rw [h]
  exact ⟨b.2.1, v, rfl, b⟩
/-- How far Parse has come. -/
def Far (l : List UInt8) (fs : List Fl) (from_ : Nat) (more_ : Bool) : Prop :=
  fs.length ≤ 32 ∧ ((more_ = true ∧ from_ ≤ l.length ∧ parse l = addl fs from_ (prs (32 - fs.length) (l.drop from_))) ∨ (more_ = false ∧ parse l = .ok fs))
theorem Far.start (l : List UInt8) : Far l [] 0 (!l.isEmpty) := by
  refine ⟨by simp, ?_⟩
  cases l with
  | nil => exact .inr ⟨rfl, rfl⟩
  | cons c l =>
    refine .inl ⟨rfl, by simp, ?_⟩
    rw [addl_nil]
    unfold parse
    rw [if_neg (by simp)]
    rfl
/-- How much there is left to do. -/
def toDo (l : List UInt8) (f m : Value) : Nat := match m with
  | .bool true => l.length + 1 - (Go.RowKit.intOf f).toNat
  | _ => 0
set_option maxHeartbeats 4000000 in
set_option maxRecDepth 8000 in
theorem parse_any (l : List UInt8) (w : World) (hl : l.length ≤ 1099511627776) :
    Calls Tryd.prog 14 #[S l] w fun e w' => Told l e w w' := by
  obtain ⟨X, hX⟩ : ∃ X : ByteArray, X = ⟨l.toArray⟩ := ⟨_, rfl⟩
  have hsz : X.size = l.length := by rw [hX]; simp [ByteArray.size]
  have hxe : ∀ n, X.extract n l.length = ⟨(l.drop n).toArray⟩ := by
    intro n
    subst hX
    rw [extract_eq, List.take_of_length_le (by simp)]
  have hne : X.toList.isEmpty = l.isEmpty := by
    subst hX
    rw [ByteArray.toList_mk]
  have HST := hide (Far.start l)
  show Calls Tryd.prog 14 #[.string ⟨l.toArray⟩] w _
  rw [← hX]
  clear hX
  have HXE := hide hxe
  clear hxe
  go_enter Tryd.func14, Tryd.ntmps14
  go_wp2_with fail
  go_loopw [5, 6, 7] (fun v f m wr => ∃ (fs : List Fl) (fr : Nat) (mo : Bool), f = .int .i64 fr ∧ m = .bool mo ∧ Far l fs fr mo ∧ OwnF w.heap.size v fs w wr) (fun _ f m _ => toDo l f m)
  case atStart => exact ⟨[], 0, _, rfl, rfl, unhide HST, OwnF.nil w⟩
  case round =>
    obtain ⟨fs, fr, mo, rfl, rfl, hfar, hown⟩ := hrel
    clear HST hne
    rcases hfar with ⟨h32, ⟨rfl, hfl, hpr⟩ | ⟨rfl, hpr⟩⟩
    · obtain ⟨p5, cap5, hv⟩ := hown.len
      subst hv
      have HO := hide hown
      have HPR := hide hpr
      clear hown hpr
      by_cases hm : fs.length = 32
      · have hEr := hide (show parse l = .error (32, fr) by rw [unhide HPR, prs_many _ _ _ hm])
        have hm' : (fs.length : Int) = 32 := by omega
        clear hm
        go_wp2
        go_ret3
        exact Told.err (unhide hEr) (unhide HO).2.1
      · have hm' : ¬ (fs.length : Int) = 32 := by omega
        have hlt : fs.length < 32 := by omega
        have HC := hide (cut_any (l.drop fr) 38 wr (by simp; omega))
        have hxe := unhide HXE fr
        unfold S at HC
        rw [← hxe] at HC
        have hhl := hd_le 38 (l.drop fr)
        rw [List.length_drop] at hhl HC
        have HQ : Hid (∀ q, Calls Tryd.prog 31 #[S (hd 38 (l.drop fr))] (wr.drewN q) fun e w' => e = .returned (tellp (pc (hd 38 (l.drop fr)))) ∧ Below wr.heap.size (wr.drewN q) w') := hide (fun q => piece_any (hd 38 (l.drop fr)) (wr.drewN q) (by omega))
        have hNx := hide (fun f (h : pc (hd 38 (l.drop fr)) = .ok f) (h2 : (hd 38 (l.drop fr)).length < (l.drop fr).length) => prs_next (l.drop fr) fs fr f hlt h h2)
        have hLa := hide (fun f (h : pc (hd 38 (l.drop fr)) = .ok f) (h2 : ¬ (hd 38 (l.drop fr)).length < (l.drop fr).length) => prs_last (l.drop fr) fs fr f hlt h h2)
        have hPe := hide (fun e q (h : pc (hd 38 (l.drop fr)) = .error (e, q)) => prs_err (l.drop fr) fs fr e q hlt h)
        rw [List.length_drop] at hNx hLa
        have hPn := hide (hd_not 38 (l.drop fr))
        clear hxe
        generalize hd 38 (l.drop fr) = P at *
        go_wp2_with fail
        refine (unhide HC).mono ?_
        rintro e W1 ⟨rfl, q, rfl⟩
        have HQ1 := hide (unhide HQ q)
        have HO1 := hide ((unhide HO).keep (w' := wr.drewN q) ⟨rfl, rfl, rfl, Nat.le_refl _, fun _ _ => rfl⟩)
        have hsz1 : (wr.drewN q).heap.size = wr.heap.size := rfl
        clear HC HQ HO
        generalize wr.drewN q = W1 at *
        cases hp : pc P with
        | error x =>
          obtain ⟨ec, pl⟩ := x
          obtain ⟨hpl, hec, _⟩ := pc_place P ec pl (unhide hPn) hp
          have hEr := hide (show parse l = .error (ec, fr + pl) by rw [unhide HPR, unhide hPe ec pl hp])
          rw [hp] at HQ1
          simp only [tellp] at HQ1
          have hec0 : ¬ (ec : Int) = 0 := by omega
          have hsum := hide (show (fr : Int) + (pl : Int) = ((fr + pl : Nat) : Int) by omega)
          have hbd : fr + pl ≤ 2199023255552 := by omega
          clear hec hp hNx hLa hPe HPR
          go_wp2_with fail
          refine (unhide HQ1).mono ?_
          rintro e W2 ⟨rfl, k2⟩
          have HB2 := hide (((unhide HO1).keep (hsz1 ▸ k2)).2.1)
          have HB3 := hide ((unhide HB2).alloc (o := .cells #[S [], S []] 44) (by have := (unhide HB2).size; omega))
          clear k2
          go_wp2
          go_ret3
          have := Told.err (unhide hEr) (unhide HB3)
          rw [← unhide hsum] at this
          exact this
        | ok f =>
          rw [hp] at HQ1
          simp only [tellp] at HQ1
          obtain ⟨fn, fv⟩ := f
          simp only at HQ1
          go_wp2_with fail
          refine (unhide HQ1).mono ?_
          rintro e W2 ⟨rfl, k2⟩
          have HO2 := hide (((unhide HO1).keep (hsz1 ▸ k2)).alloc (.cells #[S fn, S fv] 44))
          have HS2 := hide (show (W2.alloc (.cells #[S fn, S fv] 44)).heap.size = W2.heap.size + 1 by simp)
          clear k2 HQ1 HO1
          by_cases hmore : P.length < l.length - fr
          · have hF := hide (show Far l (fs ++ [(fn, fv)]) (fr + (P.length + 1)) true from ⟨by simp; omega, .inl ⟨rfl, by omega, by rw [unhide HPR, unhide hNx _ hp hmore, List.drop_drop]⟩⟩)
            have hdec : decide (P.length < l.length - fr) = true := by simpa using hmore
            clear hp hNx hLa hPe HPR
            go_wp2_with (at_builtin; refine pushF rfl (.tmp 39) (.tmp 41) rfl w.heap.size _ fs (by rfl) w _ (fn, fv) (unhide HO2) (by rw [unhide HS2]; rfl) (by omega) ?_; intro v2 w2 hb2)
            go_roundw
            case rel => exact ⟨fs ++ [(fn, fv)], fr + (P.length + 1), true, by go_num, rfl, unhide hF, hb2⟩
            case measure => simp [toDo, Go.RowKit.intOf]; omega
          · have hF := hide (show Far l (fs ++ [(fn, fv)]) (fr + (P.length + 1)) false from ⟨by simp; omega, .inr ⟨rfl, by rw [unhide HPR, unhide hLa _ hp hmore]⟩⟩)
            have hdec : decide (P.length < l.length - fr) = false := by simpa using hmore
            clear hp hNx hLa hPe HPR
            go_wp2_with (at_builtin; refine pushF rfl (.tmp 39) (.tmp 41) rfl w.heap.size _ fs (by rfl) w _ (fn, fv) (unhide HO2) (by rw [unhide HS2]; rfl) (by omega) ?_; intro v2 w2 hb2)
            go_roundw
            case rel => exact ⟨fs ++ [(fn, fv)], fr + (P.length + 1), false, by go_num, rfl, unhide hF, hb2⟩
            case measure => simp [toDo, Go.RowKit.intOf]; omega
    · have HO := hide hown
      have HPR := hide hpr
      clear hown hpr
      go_wp2
      go_ret3
      exact Told.ok (unhide HPR) (unhide HO)
end Go.Proofs.YtbmcaejbfjpmiaaDoor
