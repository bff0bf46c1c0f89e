import Derived.Test.YtpelmacblglhoaaDsd
namespace Go.Proofs.Ytpelmacblglhoaa
open Go.RowKit
set_option maxHeartbeats 4000000
set_option maxRecDepth 8000
def zs : Bs := List.replicate 512 0
/-- A new disk on which these last. -/
def Ds.new (l : List Bs) : Ds := { ws := [], last := l, fuse := 0, dead := false, acts := 0 }
theorem new_at {w : World} {V : Value} {l : List Bs} (h : w.ownsRow 0 9 1 V l.length (l.map S)) : DAt w.heap.size (Ds.new l) (.slice none 0 0) V (w.alloc (.cells #[.slice none 0 0, V, I 0, .bool false, I 0] 87)) :=
  ⟨heap_alloc_new _ _, owns_nil _ _ _, owns_alloc h _⟩
theorem zs_eq : (⟨(Lib.repeatL [0] 512).toArray⟩ : ByteArray) = ⟨zs.toArray⟩ := by
  congr 2
theorem new_any (n : Int) (w : World) (hn : -9223372036854775808 ≤ n ∧ n ≤ 9223372036854775807) :
    Calls Try.prog 18 #[I n] w fun e w' => (mayv n = false ∧ e = .returned (.tuple #[.pointer none, I 1]) ∧ w' = w) ∨
      (mayv n = true ∧ ∃ D V, e = .returned (.tuple #[ptr D, I 0]) ∧ DAt D (Ds.new (List.replicate n.toNat zs)) (.slice none 0 0) V w' ∧ (∀ k, Of D (.slice none 0 0) V k → w.heap.size ≤ k) ∧ Below w.heap.size w w') := by
  have H1 := hide (fun W => mayHave_any n W)
  by_cases hm : mayv n = true
  · obtain ⟨h8, h9⟩ : 8 ≤ n ∧ n ≤ 4096 := by simpa [mayv] using hm
    rw [hm] at H1
    obtain ⟨c, rfl⟩ : ∃ c : Nat, n = (c : Int) := ⟨n.toNat, by omega⟩
    have h2 := Try.strings_Repeat ⟨#[0]⟩ 512 w (by omega) (by decide)
    rw [show (⟨#[0]⟩ : ByteArray).data.toList = [0] from rfl, zs_eq] at h2
    have H2 := hide h2
    clear h2
    have HM := hide hm
    clear hm
    generalize zs = z at *
    go_enter Try.func18, Try.ntmps18
    go_wp2_with fail
    refine (unhide H1 _).mono ?_
    rintro e w0 ⟨rfl, rfl⟩
    go_wp2_with fail
    refine (unhide H2).mono ?_
    rintro e w1 ⟨rfl, b1⟩
    have HB1 := hide b1
    have s1 := b1.size
    clear b1
    have H3 := hide (repeat_any w1.heap.size 1 z c (w1.alloc (.cells #[S z] 9)) (by rw [cell_of_row _ _ 0 _ 9 (0, 0) (heap_alloc_new _ _)]; rfl) (by omega) (by omega))
    go_wp2_with fail
    refine (unhide H3).mono ?_
    rintro e w2 ⟨rfl, o2, b2⟩
    have HB2 := hide ((unhide HB1).trans ((((Below.refl _ w1).alloc (Nat.le_refl _) (.cells #[S z] 9)).trans (b2.mono (by simp))).mono s1))
    have HO2 := hide (new_at (l := List.replicate c z) (by simpa using o2))
    have s2 := (unhide HB2).size
    clear o2 b2
    go_wp2
    go_ret2
    refine .inr ⟨unhide HM, w2.heap.size, _, rfl, by simpa using unhide HO2, ?_, (unhide HB2).alloc s2 _⟩
    rintro k (rfl | hk | hk)
    · exact s2
    · cases hk
    · cases hk
      simp
      omega
  · have hm2 : mayv n = false := by simpa using hm
    rw [hm2] at H1
    go_enter Try.func18, Try.ntmps18
    go_wp2_with fail
    refine (unhide H1 _).mono ?_
    rintro e w0 ⟨rfl, rfl⟩
    go_wp2
    go_ret2
    exact .inl ⟨hm2, rfl, rfl⟩
def loadv (l : List Bs) : Int := if mayv l.length = false then 1 else if allR l = false then 81 else 0
theorem load_any (a : Option Addr) (n cap : Nat) (l : List Bs) (w : World) (hp : Sts w a n l) (hn : n ≤ 1000000000000) :
    Calls Try.prog 21 #[.slice a n cap] w fun e w' => (loadv l ≠ 0 ∧ e = .returned (.tuple #[.pointer none, I (loadv l)]) ∧ w' = w) ∨
      (loadv l = 0 ∧ ∃ D V, e = .returned (.tuple #[ptr D, I 0]) ∧ DAt D (Ds.new l) (.slice none 0 0) V w' ∧ (∀ k, Of D (.slice none 0 0) V k → w.heap.size ≤ k) ∧ Below w.heap.size w w') := by
  have hN := hp.1
  subst hN
  have H1 := hide (fun W => mayHave_any (l.length : Int) W)
  have H2 := hide (containsFunc_any a _ cap l w hp hn)
  by_cases hm : mayv (l.length : Int) = true
  · rw [hm] at H1
    cases hr : allR l with
    | true =>
      have hl0 : loadv l = 0 := by simp [loadv, hm, hr]
      have H3 := hide (copies_any a _ cap l w hp (fun x hx => by
        have := List.all_eq_true.1 hr x hx
        have e : x.length = 512 := by simpa using this
        omega) hn)
      rw [hr] at H2
      clear hp
      go_enter Try.func21, Try.ntmps21
      go_wp2_with fail
      refine (unhide H1 _).mono ?_
      rintro e w0 ⟨rfl, rfl⟩
      go_wp2_with fail
      refine (unhide H2).mono ?_
      rintro e w0 ⟨rfl, rfl⟩
      go_wp2_with fail
      refine (unhide H3).mono ?_
      rintro e w1 ⟨V, rfl, o1, n1, b1⟩
      obtain ⟨p, c1, rfl⟩ := owns_form o1
      have HO := hide (new_at o1)
      have HB := hide b1
      have HN := hide n1
      clear o1 n1 b1
      go_wp2
      go_ret2
      refine .inr ⟨hl0, w1.heap.size, _, rfl, unhide HO, ?_, (unhide HB).alloc (unhide HB).size _⟩
      rintro k (rfl | hk | hk)
      · exact (unhide HB).size
      · cases hk
      · exact unhide HN k hk
    | false =>
      have hl0 : loadv l = 81 := by simp [loadv, hm, hr]
      rw [hr] at H2
      clear hp
      go_enter Try.func21, Try.ntmps21
      go_wp2_with fail
      refine (unhide H1 _).mono ?_
      rintro e w0 ⟨rfl, rfl⟩
      go_wp2_with fail
      refine (unhide H2).mono ?_
      rintro e w0 ⟨rfl, rfl⟩
      go_wp2
      go_ret2
      exact .inl ⟨by rw [hl0]; decide, by rw [hl0]; rfl, rfl⟩
  · have hm2 : mayv (l.length : Int) = false := by simpa using hm
    have hl0 : loadv l = 1 := by simp [loadv, hm2]
    rw [hm2] at H1
    clear hp
    go_enter Try.func21, Try.ntmps21
    go_wp2_with fail
    refine (unhide H1 _).mono ?_
    rintro e w0 ⟨rfl, rfl⟩
    go_wp2
    go_ret2
    exact .inl ⟨by rw [hl0]; decide, by rw [hl0]; rfl, rfl⟩
end Go.Proofs.Ytpelmacblglhoaa
