import Derived.Test.YthlacailhfhjnaaGreatDoorWhg
namespace Go.Proofs.YthlacailhfhjnaaGreatDoor
open Go.RowKit Go.Lib
/-- What a first line of a message leaves in the box. -/
def Akd (P : Nat) (st : Int) (hv : Value) (b : Bs) (n : Int) (wh : Bool) (e : Int) (s : Bs) (w w' : World) : Prop := ∃ m p : Bs, w'.heap[P]? = some (.cells (gcs m p st hv b n wh e) 93 (0, 0)) ∧ Only (fun k => k = P) w w' ∧ (∀ f, opM s = some f → m = f.m ∧ p = f.p)
theorem opM_none {s : Bs} (h : ¬ ((hd 32 s).length < s.length ∧ (hd 32 (tl 32 s)).length < (tl 32 s).length)) : opM s = none := by
  unfold opM
  rw [if_neg]
  intro q
  simp only [Bool.and_eq_true] at q
  obtain ⟨⟨_, q2⟩, q3⟩ := q
  apply h
  have ht : (hd 32 (tl 32 s)).length < (tl 32 s).length := by
    rcases (hd_split 32 (tl 32 s)).2 with ⟨e, _⟩ | ⟨_, e⟩
    · exact e
    · exfalso
      have : tl 32 (tl 32 s) = [] := by
        unfold tl
        have : List.dropWhile (fun x => !x == (32 : UInt8)) (tl 32 s) = [] := by
          have h1 := List.takeWhile_append_dropWhile (p := fun x => !x == (32 : UInt8)) (l := tl 32 s)
          have h2 : List.takeWhile (fun x => !x == (32 : UInt8)) (tl 32 s) = tl 32 s := e
          rw [h2] at h1
          exact List.append_right_eq_self.1 h1
        unfold tl at this
        rw [this]
        rfl
      rw [this] at q3
      exact absurd q3 (by decide)
  refine ⟨?_, ht⟩
  rcases (hd_split 32 s).2 with ⟨e, _⟩ | ⟨_, e⟩
  · exact e
  · exfalso
    have : tl 32 s = [] := by
      unfold tl
      have : List.dropWhile (fun x => !x == (32 : UInt8)) s = [] := by
        have h1 := List.takeWhile_append_dropWhile (p := fun x => !x == (32 : UInt8)) (l := s)
        have h2 : List.takeWhile (fun x => !x == (32 : UInt8)) s = s := e
        rw [h2] at h1
        exact List.append_right_eq_self.1 h1
      rw [this]
      rfl
    rw [this] at ht
    simp [hd] at ht
theorem rct_form (c : UInt8) (s : Bs) : ∃ a r o, rct c s = .tuple #[S a, S r, .bool o] ∧ ((o = true ∧ a = hd c s ∧ r = tl c s ∧ (hd c s).length < s.length) ∨ (o = false ∧ a = [] ∧ r = [] ∧ ¬ (hd c s).length < s.length)) := by
  by_cases h : (hd c s).length < s.length
  · exact ⟨_, _, true, by unfold rct; rw [if_pos h], .inl ⟨rfl, rfl, rfl, h⟩⟩
  · exact ⟨[], [], false, by unfold rct; rw [if_neg h], .inr ⟨rfl, rfl, rfl, h⟩⟩
set_option maxHeartbeats 4000000 in
set_option maxRecDepth 8000 in
theorem rasked_any (P : Nat) (m p : Bs) (st : Int) (hv : Value) (b : Bs) (n : Int) (wh : Bool) (e : Int) (s : Bs) (w : World) (hs : s.length ≤ 1000000) (hx : w.heap[P]? = some (.cells (gcs m p st hv b n wh e) 93 (0, 0))) :
    Calls Tryz.prog 79 #[ptr P, S s] w fun r w' => r = .returned (.bool (opM s).isSome) ∧ Akd P st hv b n wh e s w w' := by
  have HX := hide hx
  have HC1 := hide (rcut_any 32 s w (by omega))
  obtain ⟨a2, r2, o1, e1, f1⟩ := rct_form 32 s
  rw [e1] at HC1
  have hr2 : r2.length ≤ s.length ∧ a2.length ≤ s.length := by
    rcases f1 with ⟨_, rfl, rfl, _⟩ | ⟨_, rfl, rfl, _⟩
    · exact ⟨tl_le 32 s, hd_le 32 s⟩
    · exact ⟨Nat.zero_le _, Nat.zero_le _⟩
  have HC2 := hide (fun W => rcut_any 32 r2 W (by omega))
  obtain ⟨b2, c2, o2, e2, f2⟩ := rct_form 32 r2
  rw [e2] at HC2
  have hb2 : b2.length ≤ s.length := by
    rcases f2 with ⟨_, rfl, rfl, _⟩ | ⟨_, rfl, rfl, _⟩
    · have := hd_le 32 r2; omega
    · exact Nat.zero_le _
  have HMt := hide (fun W => rMethod_any a2 W (by omega))
  have HPt := hide (fun W => rPath_any b2 W (by omega))
  have hop : opM s = if meth (hd 32 s) && pth (hd 32 (tl 32 s)) && tl 32 (tl 32 s) == vers then some ⟨hd 32 s, hd 32 (tl 32 s), 0⟩ else none := rfl
  have hkey : (opM s).isSome = (o1 && (o2 && (meth a2 && (pth b2 && (c2 == vers))))) ∧ ∀ f, opM s = some f → a2 = f.m ∧ b2 = f.p := by
    rcases f1 with ⟨rfl, rfl, rfl, g1⟩ | ⟨rfl, rfl, rfl, g1⟩
    · rcases f2 with ⟨rfl, rfl, rfl, g2⟩ | ⟨rfl, rfl, rfl, g2⟩
      · constructor
        · rw [hop, Bool.true_and, Bool.true_and, ← Bool.and_assoc]
          split
          · rename_i q; rw [q]; rfl
          · rename_i q; simp only [Bool.not_eq_true] at q; rw [q]; rfl
        · intro f hf
          rw [hop] at hf
          split at hf
          · cases hf; exact ⟨rfl, rfl⟩
          · cases hf
      · have := opM_none (s := s) (fun q => g2 q.2)
        rw [this]
        exact ⟨rfl, fun f hf => by cases hf⟩
    · have := opM_none (s := s) (fun q => g1 q.1)
      rw [this]
      exact ⟨rfl, fun f hf => by cases hf⟩
  obtain ⟨hO, hF⟩ := hkey
  have HF := hide hF
  rw [hO]
  have HV := hide (show (vers : Bs) = [72, 84, 84, 80, 47, 49, 46, 49] from rfl)
  clear hO hF hop e1 e2 f1 f2 hr2 hb2 hs hx
  generalize meth a2 = M at *
  generalize pth b2 = PP at *
  go_enter Tryz.func79, Tryz.ntmps79
  go_wp2_with fail
  refine (unhide HC1).mono ?_
  rintro e1 w1 ⟨rfl, b1⟩
  have O1 := hide (Only.of_below (P := fun k => k = P) b1)
  have X1 := hide ((b1.block _ (lt_of_row (unhide HX))).trans (unhide HX))
  clear b1
  go_wp2_with fail
  refine (unhide HC2 w1).mono ?_
  rintro e2 w2 ⟨rfl, b2'⟩
  have O2 := hide ((unhide O1).trans (Only.of_below (P := fun k => k = P) b2') (fun _ _ q => q))
  have X2 := hide ((b2'.block _ (lt_of_row (unhide X1))).trans (unhide X1))
  clear b2' O1 X1 HC1 HC2
  go_wp2_with fail
  refine (unhide HMt w2).mono ?_
  rintro e3 w3 ⟨rfl, hw3⟩
  rw [hw3]
  clear hw3
  go_wp2_with fail
  refine (unhide HPt w2).mono ?_
  rintro e3 w3 ⟨rfl, hw3⟩
  rw [hw3]
  clear hw3 HMt HPt
  have x2 := unhide X2
  have d0 : w2.cell? ⟨P, 0, none⟩ = some (S m) := cell_of_row w2 _ 0 _ 93 (0, 0) x2
  have z0 : w2.frozen? ⟨P, 0, none⟩ = false := frozen_of_heap x2 0
  have x3 : (w2.setCell ⟨P, 0, none⟩ (S a2)).heap[P]? = some (.cells (gcs a2 p st hv b n wh e) 93 (0, 0)) := heap_setCell_same w2 P 0 _ 93 _ x2
  have d1 : (w2.setCell ⟨P, 0, none⟩ (S a2)).cell? ⟨P, 1, none⟩ = some (S p) := cell_of_row _ _ 1 _ 93 (0, 0) x3
  have z1 : (w2.setCell ⟨P, 0, none⟩ (S a2)).frozen? ⟨P, 1, none⟩ = false := frozen_of_heap x3 1
  have X4 := hide (show ((w2.setCell ⟨P, 0, none⟩ (S a2)).setCell ⟨P, 1, none⟩ (S b2)).heap[P]? = some (.cells (gcs a2 b2 st hv b n wh e) 93 (0, 0)) from heap_setCell_same _ P 1 _ 93 _ x3)
  have O4 := hide (((unhide O2).trans (Only.setCell w2 ⟨P, 0, none⟩ (S a2)) (fun _ _ q => q)).trans (Only.setCell _ ⟨P, 1, none⟩ (S b2)) (fun _ _ q => q))
  have hPl := lt_of_row x2
  clear x2 x3
  cases o1 with
  | false =>
    go_wp2
    go_ret
    exact ⟨rfl, _, _, unhide X4, unhide O4, unhide HF⟩
  | true =>
    cases o2 with
    | false =>
      go_wp2
      go_ret
      exact ⟨rfl, _, _, unhide X4, unhide O4, unhide HF⟩
    | true =>
      cases M with
      | false =>
        go_wp2
        go_ret
        exact ⟨rfl, _, _, unhide X4, unhide O4, unhide HF⟩
      | true =>
        cases PP with
        | false =>
          go_wp2
          go_ret
          exact ⟨rfl, _, _, unhide X4, unhide O4, unhide HF⟩
        | true =>
          go_wp2
          go_ret
          exact ⟨rfl, _, _, unhide X4, unhide O4, unhide HF⟩
end Go.Proofs.YthlacailhfhjnaaGreatDoor
