import PyProof.Rows.All
import Wide.All
import OpenK.AllK
import Wide.FinOn
import HandS.ForMost
import HandS.Evl
import HandS.TupAny
import HandS.TupLe
import HandS.IsInst
import HandS.Property
import HandS.Style
import HandS.Rev
import HandS.SortInts
import HandS.Deep
import HandS.Zip
import HandS.OwnEq
import HandS.Conv
import HandS.SetFor
import HandS.TupMul
import PyProof.TupleOfSeq
import KE.DataMinMax
import PyProof.WalkInts
import PySem.Challenge.RW_neededrows_k26_parted_networks
set_option Elab.async false
set_option linter.all false
set_option maxRecDepth 100000
set_option maxRecDepth 100000
namespace Dt
open PySem PySem.Spec PyProof.Rows L2
open Evl (Ex)

/-- plain data; net: an instance with two fields -/
inductive D where
  | non | bl (b : Bool) | int (i : Int) | str (s : Str) | tup (l : List D) | lst (l : List D) | net (w : Int) (c : D) | frz (l : List Int) | opq (a : Addr)

structure Cfg where
  net : Addr
  K : PySem.W.Frag
def FrzL (K : PySem.W.Frag) (H : Hp) (a : Addr) (ns : List Int) : Prop := (∃ o, H a = some (.frz o (.lst (ns.map V.int)))) ∨ ∀ H', SqL K H' a (ns.map V.int)
theorem FrzL.mono {K : PySem.W.Frag} {H H' : Hp} {a : Addr} {ns : List Int} (e : Ex H H') (h : FrzL K H a ns) : FrzL K H' a ns := h.imp (fun ⟨o, q⟩ => ⟨o, e _ _ q⟩) id
theorem FrzL.sq {K : PySem.W.Frag} {H : Hp} {a : Addr} {ns : List Int} (h : FrzL K H a ns) : SqL K H a (ns.map V.int) := h.elim (fun ⟨o, q⟩ => .inl (.inr ⟨o, q⟩)) fun q => q H
inductive Fl | pure | fresh | bor
  deriving DecidableEq
abbrev E := List (Option (D × Bool))
abbrev M := E → Option (D × Fl)

mutual
inductive Rep (C : Cfg) (H : Hp) : V → D → Prop
  | non : Rep C H .non .non
  | bl (b : Bool) : Rep C H (.bl b) (.bl b)
  | int (i : Int) : Rep C H (.int i) (.int i)
  | str (x : Str) : Rep C H (.str x) (.str x)
  | tup {a : Addr} {xs : List V} {ds : List D} : H a = some (.tup xs) → Reps C H xs ds → Rep C H (.ref a) (.tup ds)
  | lst {a : Addr} {xs : List V} {ds : List D} : H a = some (.lst xs) → Reps C H xs ds → Rep C H (.ref a) (.lst ds)
  | net {a dx : Addr} {x : V} {w : Int} {c : D} : H a = some (.ins C.net dx [("wires", .int w), ("comparers", x)]) → Rep C H x c → Rep C H (.ref a) (.net w c)
  | frz {a : Addr} {ns : List Int} : FrzL C.K H a ns → Rep C H (.ref a) (.frz ns)
  | opq (a : Addr) : Rep C H (.ref a) (.opq a)
inductive Reps (C : Cfg) (H : Hp) : List V → List D → Prop
  | nil : Reps C H [] []
  | cons {v : V} {vs : List V} {d : D} {ds : List D} : Rep C H v d → Reps C H vs ds → Reps C H (v :: vs) (d :: ds)
end

variable {C : Cfg} {H H' H'' : Hp} {O O' O0 : List Addr}

mutual
theorem Rep.mono (e : Ex H H') : ∀ {d : D} {v : V}, Rep C H v d → Rep C H' v d
  | .non, _, h => by cases h; exact .non
  | .bl _, _, h => by cases h; exact .bl _
  | .int _, _, h => by cases h; exact .int _
  | .str _, _, h => by cases h; exact .str _
  | .tup ds, _, h => by cases h with | tup h1 h2 => exact .tup (e _ _ h1) (Reps.mono e h2)
  | .lst ds, _, h => by cases h with | lst h1 h2 => exact .lst (e _ _ h1) (Reps.mono e h2)
  | .net w c, _, h => by cases h with | net h1 h2 => exact .net (e _ _ h1) (Rep.mono e h2)
  | .frz _, _, h => by cases h with | frz h1 => exact .frz (h1.mono e)
  | .opq _, _, h => by cases h; exact .opq _
theorem Reps.mono (e : Ex H H') : ∀ {ds : List D} {vs : List V}, Reps C H vs ds → Reps C H' vs ds
  | [], _, h => by cases h; exact .nil
  | _ :: _, _, h => by cases h with | cons h1 h2 => exact .cons (Rep.mono e h1) (Reps.mono e h2)
end

theorem Reps.length : ∀ {ds : List D} {vs : List V}, Reps C H vs ds → vs.length = ds.length
  | [], _, h => by cases h; rfl
  | _ :: _, _, h => by cases h with | cons h1 h2 => simp [Reps.length h2]
theorem Reps.append : ∀ {ds es : List D} {vs ws : List V}, Reps C H vs ds → Reps C H ws es → Reps C H (vs ++ ws) (ds ++ es)
  | [], _, _, _, h, k => by cases h; exact k
  | _ :: _, _, _, _, h, k => by cases h with | cons h1 h2 => exact .cons h1 (Reps.append h2 k)
theorem Reps.get : ∀ {ds : List D} {vs : List V} {i : Nat} {d : D}, Reps C H vs ds → ds[i]? = some d → ∃ v, vs[i]? = some v ∧ Rep C H v d
  | [], _, i, d, h, e => by simp at e
  | _ :: _, _, 0, d, h, e => by cases h with | cons h1 h2 => simp at e; subst e; exact ⟨_, rfl, h1⟩
  | _ :: _, _, i + 1, d, h, e => by
    cases h with
    | cons h1 h2 =>
      obtain ⟨v, e1, r⟩ := Reps.get (i := i) h2 (by simpa using e)
      exact ⟨v, by simpa using e1, r⟩
theorem Reps.getV : ∀ {ds : List D} {vs : List V} {i : Nat} {v : V}, Reps C H vs ds → vs[i]? = some v → ∃ d, ds[i]? = some d ∧ Rep C H v d
  | [], _, i, d, h, e => by cases h; simp at e
  | _ :: _, _, 0, d, h, e => by cases h with | cons h1 h2 => simp at e; subst e; exact ⟨_, rfl, h1⟩
  | _ :: _, _, i + 1, d, h, e => by
    cases h with
    | cons h1 h2 =>
      obtain ⟨v, e1, r⟩ := Reps.getV (i := i) h2 (by simpa using e)
      exact ⟨v, by simpa using e1, r⟩
theorem Reps.set {v : V} {d : D} (r : Rep C H v d) : ∀ {ds : List D} {vs : List V} (i : Nat), Reps C H vs ds → Reps C H (vs.set i v) (ds.set i d)
  | [], _, _, h => by cases h; exact .nil
  | _ :: _, _, 0, h => by cases h with | cons h1 h2 => exact .cons r h2
  | _ :: _, _, i + 1, h => by cases h with | cons h1 h2 => exact .cons h1 (Reps.set r i h2)
theorem Reps.take : ∀ {ds : List D} {vs : List V} (n : Nat), Reps C H vs ds → Reps C H (vs.take n) (ds.take n)
  | _, _, 0, _ => by simpa using Reps.nil
  | [], _, n + 1, h => by cases h; exact .nil
  | _ :: _, _, n + 1, h => by cases h with | cons h1 h2 => exact .cons h1 (Reps.take n h2)
theorem Reps.drop : ∀ {ds : List D} {vs : List V} (n : Nat), Reps C H vs ds → Reps C H (vs.drop n) (ds.drop n)
  | _, _, 0, h => by simpa using h
  | [], _, n + 1, h => by cases h; exact .nil
  | _ :: _, _, n + 1, h => by cases h with | cons h1 h2 => exact Reps.drop n h2
theorem Reps.reverse : ∀ {ds : List D} {vs : List V}, Reps C H vs ds → Reps C H vs.reverse ds.reverse
  | [], _, h => by cases h; exact .nil
  | _ :: _, _, h => by
    cases h with
    | cons h1 h2 =>
      simp only [List.reverse_cons]
      exact Reps.append (Reps.reverse h2) (.cons h1 .nil)
theorem Reps.rep {ds : List D} {vs : List V} (h : Reps C H vs ds) : ∀ k : Nat, Reps C H (List.replicate k vs).flatten (List.replicate k ds).flatten
  | 0 => .nil
  | k + 1 => by
    simp only [List.replicate_succ, List.flatten_cons]
    exact Reps.append h (Reps.rep h k)
def cutD {α : Type} (xs : List α) (lo hi : Option Int) : List α := (xs.drop (HT.sIx xs.length 0 lo)).take (HT.sIx xs.length xs.length hi - HT.sIx xs.length 0 lo)
theorem cut_reps {ds : List D} {vs : List V} (h : Reps C H vs ds) (lo hi : Option Int) : Reps C H (cutV vs lo hi) (cutD ds lo hi) := by
  unfold cutV cutD
  rw [h.length]
  exact (h.drop _).take _

/-! ### hidden addresses -/
def hid (H : Hp) (O : List Addr) : Hp := fun a => if a ∈ O then none else H a
theorem hid_ex : Ex (hid H O) H := fun a o h => by
  unfold hid at h
  split at h
  · cases h
  · exact h
theorem hid_mono (e : Ex H H') : Ex (hid H O) (hid H' O) := fun a o h => by
  unfold hid at h ⊢
  split at h
  · cases h
  · rename_i q; rw [if_neg q]; exact e a o h
theorem hid_sub (s : ∀ a ∈ O0, a ∈ O) : Ex (hid H O) (hid H O0) := fun a o h => by
  unfold hid at h ⊢
  split at h
  · cases h
  · rename_i q; rw [if_neg fun z => q (s a z)]; exact h
theorem hid_new {a : Addr} (h : H a = none) : Ex (hid H O) (hid H (a :: O)) := fun b o e => by
  unfold hid at e ⊢
  split at e
  · cases e
  · rename_i q
    have : b ≠ a := fun z => by rw [z, h] at e; cases e
    rw [if_neg (by simp [this, q])]
    exact e
theorem hid_out {a : Addr} (h : a ∉ O) : hid H O a = H a := by unfold hid; rw [if_neg h]
theorem hid_upd {a : Addr} {o : HO} (h : a ∈ O) : hid (upd H a o) O = hid H O := by
  funext b
  unfold hid
  split
  · rfl
  · rename_i q
    rw [upd_ne]
    rintro rfl
    exact q h

/-! ### the state -/
structure SV (C : Cfg) (O0 O : List Addr) (H : Hp) (σ : L2.St) (ρ : E) : Prop where
  len : σ.length = ρ.length
  dom : ∀ a ∈ O, H a ≠ none
  sub : ∀ a ∈ O0, a ∈ O
  ll : ∀ a ∈ O, a ∉ O0 → ∃ xs, H a = some (.lst xs)
  sh : ∀ (i : Nat) (d : D), ρ[i]? = some (some (d, false)) → ∃ v, σ[i]? = some (some v) ∧ Rep C (hid H O) v d
  ow : ∀ (i : Nat) (d : D), ρ[i]? = some (some (d, true)) → ∃ a xs ds, d = .lst ds ∧ σ[i]? = some (some (.ref a)) ∧ a ∈ O ∧ a ∉ O0 ∧ H a = some (.lst xs) ∧ Reps C (hid H O) xs ds
  inj : ∀ (i j : Nat) (d e : D) (a : Addr), ρ[i]? = some (some (d, true)) → ρ[j]? = some (some (e, true)) → σ[i]? = some (some (.ref a)) → σ[j]? = some (some (.ref a)) → i = j
theorem SV.mono {σ : L2.St} {ρ : E} (e : Ex H H') (s : SV C O0 O H σ ρ) : SV C O0 O H' σ ρ where
  len := s.len
  dom := fun a h z => by
    cases q : H a with
    | none => exact s.dom a h q
    | some o => have := e a o q; rw [z] at this; cases this
  sub := s.sub
  ll := fun a h h0 => let ⟨xs, q⟩ := s.ll a h h0; ⟨xs, e _ _ q⟩
  sh := fun i d h => let ⟨v, a, b⟩ := s.sh i d h; ⟨v, a, b.mono (hid_mono e)⟩
  ow := fun i d h => let ⟨a, xs, ds, h1, h2, h3, h4, h5, h6⟩ := s.ow i d h; ⟨a, xs, ds, h1, h2, h3, h4, e _ _ h5, h6.mono (hid_mono e)⟩
  inj := s.inj

/-- what a value is, by its flag -/
inductive Res (C : Cfg) (O0 O : List Addr) (H H' : Hp) : V → D × Fl → Prop
  | pure {v d} : Rep C (hid H' O) v d → Res C O0 O H H' v (d, .pure)
  | fresh {a xs ds} : H a = none → H' a = some (.lst xs) → Reps C (hid H' (a :: O)) xs ds → Res C O0 O H H' (.ref a) (.lst ds, .fresh)
  | bor {a xs ds} : a ∈ O → a ∉ O0 → H' a = some (.lst xs) → Reps C (hid H' O) xs ds → Res C O0 O H H' (.ref a) (.lst ds, .bor)
theorem Res.mono {v : V} {r : D × Fl} (e : Ex H' H'') (h : Res C O0 O H H' v r) : Res C O0 O H H'' v r := by
  cases h with
  | pure q => exact .pure (q.mono (hid_mono e))
  | fresh h1 h2 h3 => exact .fresh h1 (e _ _ h2) (h3.mono (hid_mono e))
  | bor h1 h2 h3 h4 => exact .bor h1 h2 (e _ _ h3) (h4.mono (hid_mono e))
/-- ahead of an extension -/
theorem Res.back {v : V} {r : D × Fl} {H1 : Hp} (e : Ex H H1) (h : Res C O0 O H1 H' v r) : Res C O0 O H H' v r := by
  cases h with
  | pure q => exact .pure q
  | fresh h1 h2 h3 => exact .fresh (Evl.fresh_back e h1) h2 h3
  | bor h1 h2 h3 h4 => exact .bor h1 h2 h3 h4
theorem hid_cons {a : Addr} : Ex (hid H (a :: O)) (hid H O) := hid_sub fun _ h => List.mem_cons_of_mem _ h
/-- every value, the owned ones not hidden -/
theorem Res.any {v : V} {r : D × Fl} (s : ∀ a ∈ O0, a ∈ O) (dm : ∀ a ∈ O, H a ≠ none) (h : Res C O0 O H H' v r) : Rep C (hid H' O0) v r.1 := by
  cases h with
  | pure q => exact q.mono (hid_sub s)
  | fresh h1 h2 h3 =>
    refine .lst ?_ (h3.mono (hid_sub fun a h => List.mem_cons_of_mem _ (s a h)))
    rw [hid_out fun z => dm _ (s _ z) h1]; exact h2
  | bor h1 h2 h3 h4 => exact .lst (by rw [hid_out h2]; exact h3) (h4.mono (hid_sub s))
theorem Res.full {v : V} {r : D × Fl} (h : Res C O0 O H H' v r) : Rep C H' v r.1 := by
  cases h with
  | pure q => exact q.mono hid_ex
  | fresh h1 h2 h3 => exact .lst h2 (h3.mono hid_ex)
  | bor h1 h2 h3 h4 => exact .lst h3 (h4.mono hid_ex)
/-- .. as one that is shared from now on -/
theorem Res.sharedF {v : V} {r : D × Fl} (dm : ∀ a ∈ O, H a ≠ none) (hb : r.2 ≠ .bor) (h : Res C O0 O H H' v r) : Rep C (hid H' O) v r.1 := by
  cases h with
  | pure q => exact q
  | fresh h1 h2 h3 => exact .lst (by rw [hid_out fun z => dm _ z h1]; exact h2) (h3.mono hid_cons)
  | bor h1 h2 h3 h4 => exact absurd rfl hb
theorem Res.lstE {v : V} {ds : List D} {fl : Fl} (h : Res C O0 O H H' v (.lst ds, fl)) : ∃ a xs, v = .ref a ∧ H' a = some (.lst xs) ∧ Reps C (hid H' O) xs ds := by
  cases h with
  | pure q =>
    cases q with
    | lst h1 h2 => exact ⟨_, _, rfl, hid_ex _ _ h1, h2⟩
  | fresh h1 h2 h3 => exact ⟨_, _, rfl, h2, h3.mono hid_cons⟩
  | bor h1 h2 h3 h4 => exact ⟨_, _, rfl, h3, h4⟩
theorem Res.tupE {v : V} {ds : List D} {fl : Fl} (h : Res C O0 O H H' v (.tup ds, fl)) : ∃ a xs, v = .ref a ∧ H' a = some (.tup xs) ∧ Reps C (hid H' O) xs ds := by
  cases h with
  | pure q =>
    cases q with
    | tup h1 h2 => exact ⟨_, _, rfl, hid_ex _ _ h1, h2⟩
theorem Res.intE {v : V} {i : Int} {fl : Fl} (h : Res C O0 O H H' v (.int i, fl)) : v = .int i := by
  cases h with | pure q => cases q; rfl
theorem Res.blE {v : V} {i : Bool} {fl : Fl} (h : Res C O0 O H H' v (.bl i, fl)) : v = .bl i := by
  cases h with | pure q => cases q; rfl
theorem Res.strE {v : V} {i : Str} {fl : Fl} (h : Res C O0 O H H' v (.str i, fl)) : v = .str i := by
  cases h with | pure q => cases q; rfl
theorem Res.nonE {v : V} {fl : Fl} (h : Res C O0 O H H' v (.non, fl)) : v = .non := by
  cases h with | pure q => cases q; rfl
theorem Res.int {i : Int} : Res C O0 O H H' (.int i) (.int i, .pure) := .pure (.int i)
theorem Res.bl {i : Bool} : Res C O0 O H H' (.bl i) (.bl i, .pure) := .pure (.bl i)

/-! no list within -/
mutual
def imm : D → Bool
  | .lst _ => false
  | .tup ds => imms ds
  | .net _ c => imm c
  | .frz _ => true
  | _ => true
def imms : List D → Bool
  | [] => true
  | d :: ds => imm d && imms ds
end
mutual
theorem Rep.ofImm (l : ∀ a ∈ O, a ∉ O0 → ∃ xs, H a = some (.lst xs)) : ∀ {d : D} {v : V}, imm d = true → Rep C (hid H O0) v d → Rep C (hid H O) v d
  | .non, _, _, h => by cases h; exact .non
  | .bl _, _, _, h => by cases h; exact .bl _
  | .int _, _, _, h => by cases h; exact .int _
  | .str _, _, _, h => by cases h; exact .str _
  | .tup ds, _, i, h => by
    cases h with
    | @tup a xs _ h1 h2 =>
      refine .tup ?_ (Reps.ofImm l (by simpa [imm] using i) h2)
      rw [hid_out]
      · exact hid_ex _ _ h1
      · intro z
        have hn : a ∉ O0 := fun q => by unfold hid at h1; rw [if_pos q] at h1; cases h1
        obtain ⟨ys, e⟩ := l a z hn
        rw [hid_out hn, e] at h1; cases h1
  | .lst ds, _, i, h => by simp [imm] at i
  | .net w c, _, i, h => by
    cases h with
    | @net a dx x _ _ h1 h2 =>
      refine .net (dx := dx) (x := x) ?_ (Rep.ofImm l (by simpa [imm] using i) h2)
      rw [hid_out]
      · exact hid_ex _ _ h1
      · intro z
        have hn : a ∉ O0 := fun q => by unfold hid at h1; rw [if_pos q] at h1; cases h1
        obtain ⟨ys, e⟩ := l a z hn
        rw [hid_out hn, e] at h1; cases h1
  | .frz _, _, _, h => by
    cases h with
    | @frz a ns h1 =>
      refine .frz (h1.imp (fun ⟨o, h1⟩ => ⟨o, ?_⟩) id)
      rw [hid_out]
      · exact hid_ex _ _ h1
      · intro z
        have hn : a ∉ O0 := fun q => by unfold hid at h1; rw [if_pos q] at h1; cases h1
        obtain ⟨ys, e⟩ := l a z hn
        rw [hid_out hn, e] at h1; cases h1
  | .opq _, _, _, h => by cases h; exact .opq _
theorem Reps.ofImm (l : ∀ a ∈ O, a ∉ O0 → ∃ xs, H a = some (.lst xs)) : ∀ {ds : List D} {vs : List V}, imms ds = true → Reps C (hid H O0) vs ds → Reps C (hid H O) vs ds
  | [], _, _, h => by cases h; exact .nil
  | _ :: _, _, i, h => by
    cases h with
    | cons h1 h2 =>
      simp only [imms, Bool.and_eq_true] at i
      exact .cons (Rep.ofImm l i.1 h1) (Reps.ofImm l i.2 h2)
end

/-! ### an expression's reading and the function that says its value -/
def Snd (C : Cfg) (te : TE) (m : M) : Prop := ∀ O0 O H σ ρ r, SV C O0 O H σ ρ → m ρ = some r → ∀ Q : VK, (∀ v H', Ex H H' → Res C O0 O H H' v r → Q v H') → te σ H Q
structure DE (C : Cfg) (X : Cx) (e : Expr) (te : TE) (m : M) : Prop where
  pe : PE X e te
  sd : Snd C te m
/-- tests -/
abbrev B := E → Option Bool
def SndT (C : Cfg) (tt : TT) (m : B) : Prop := ∀ O0 O H σ ρ r, SV C O0 O H σ ρ → m ρ = some r → ∀ Q : Bool → Hp → Prop, (∀ H', Ex H H' → Q r H') → tt σ H Q
structure DT (C : Cfg) (X : Cx) (e : Expr) (tt : TT) (m : B) : Prop where
  pt : PT X e tt
  sd : SndT C tt m
/-- arguments -/
abbrev As := E → Option (List (D × Fl))
inductive Ress (C : Cfg) (O0 O : List Addr) (H H' : Hp) : List V → List (D × Fl) → Prop
  | nil : Ress C O0 O H H' [] []
  | cons {v vs r rs} : Res C O0 O H H' v r → Ress C O0 O H H' vs rs → Ress C O0 O H H' (v :: vs) (r :: rs)
theorem Ress.mono (e : Ex H' H'') {vs : List V} {rs : List (D × Fl)} (h : Ress C O0 O H H' vs rs) : Ress C O0 O H H'' vs rs := by
  induction h with
  | nil => exact .nil
  | cons h _ ih => exact .cons (h.mono e) ih
theorem Ress.back {H1 : Hp} (e : Ex H H1) {vs : List V} {rs : List (D × Fl)} (h : Ress C O0 O H1 H' vs rs) : Ress C O0 O H H' vs rs := by
  induction h with
  | nil => exact .nil
  | cons h _ ih => exact .cons (h.back e) ih
def SndA (C : Cfg) (ta : TA) (m : As) : Prop := ∀ O0 O H σ ρ rs, SV C O0 O H σ ρ → m ρ = some rs → ∀ Q : List V → Hp → Prop, (∀ vs H', Ex H H' → Ress C O0 O H H' vs rs → Q vs H') → ta σ H Q
structure DA (C : Cfg) (X : Cx) (es : List Expr) (ta : TA) (m : As) : Prop where
  pa : PA X es ta
  sd : SndA C ta m
end Dt

set_option maxRecDepth 100000
namespace Dt
open PySem PySem.Spec PyProof.Rows L2
open Evl (Ex)

structure Co (O0 O : List Addr) (H : Hp) : Prop where
  dom : ∀ a ∈ O, H a ≠ none
  sub : ∀ a ∈ O0, a ∈ O
  ll : ∀ a ∈ O, a ∉ O0 → ∃ xs, H a = some (.lst xs)
section
variable {C : Cfg} {K : PySem.W.Frag} {X : Cx} {O0 O : List Addr} {H H' H1 : Hp} {σ : L2.St} {ρ : E}
theorem SV.co (s : SV C O0 O H σ ρ) : Co O0 O H := ⟨s.dom, s.sub, s.ll⟩
theorem Co.mono (e : Ex H H') (c : Co O0 O H) : Co O0 O H' where
  dom := fun a h z => by
    cases q : H a with
    | none => exact c.dom a h q
    | some o => have := e a o q; rw [z] at this; cases this
  sub := c.sub
  ll := fun a h h0 => let ⟨xs, q⟩ := c.ll a h h0; ⟨xs, e _ _ q⟩
def lim : Nat := 100000
theorem lim_line {n : Nat} (h : n ≤ lim) : n ≤ sizeLine := Nat.le_trans h (by decide)
theorem lim_lt {n : Nat} (h : n < lim) : n < sizeLine := Nat.lt_of_lt_of_le h (by decide)
theorem new_tup {p : Addr} {xs : List V} {ds : List D} (c : Co O0 O H') (hp : H' p = none) (r : Reps C (hid H' O) xs ds) : Rep C (hid (upd H' p (.tup xs)) O) (.ref p) (.tup ds) := by
  refine .tup ?_ (r.mono (hid_mono (Ex_new hp)))
  rw [hid_out fun z => c.dom _ z hp, upd_same]
where Ex_new {p : Addr} {o : HO} (h : H' p = none) : Ex H' (upd H' p o) := Evl.Ex.new h
theorem res_tup {p : Addr} {xs : List V} {ds : List D} (c : Co O0 O H') (hp : H' p = none) (r : Reps C (hid H' O) xs ds) : Res C O0 O H (upd H' p (.tup xs)) (.ref p) (.tup ds, .pure) := .pure (new_tup c hp r)
theorem reps_hid {p : Addr} {o : HO} {xs : List V} {ds : List D} (hp : H' p = none) (r : Reps C (hid H' O) xs ds) : Reps C (hid (upd H' p o) (p :: O)) xs ds := by
  rw [hid_upd List.mem_cons_self]
  exact r.mono (hid_new hp)
theorem res_lst {p : Addr} {xs : List V} {ds : List D} (e : Ex H H') (hp : H' p = none) (r : Reps C (hid H' O) xs ds) : Res C O0 O H (upd H' p (.lst xs)) (.ref p) (.lst ds, .fresh) :=
  .fresh (Evl.fresh_back e hp) upd_same (reps_hid hp r)

/-! ### names, constants -/
def mVar (i : Nat) : M := fun ρ => match ρ[i]? with
  | some (some (d, o)) => some (d, if o then .bor else .pure)
  | _ => none
theorem snd_var {i : Nat} : Snd C (tVar i) (mVar i) := by
  intro O0 O H σ ρ r s h Q q
  unfold mVar at h
  split at h
  · rename_i d o e
    cases h
    cases o with
    | true =>
      obtain ⟨a, xs, ds, rfl, h1, h2, h3, h4, h5⟩ := s.ow i d e
      exact ⟨_, h1, q _ _ (Evl.Ex.refl _) (.bor h2 h3 h4 h5)⟩
    | false =>
      obtain ⟨v, h1, h2⟩ := s.sh i d e
      exact ⟨v, h1, q _ _ (Evl.Ex.refl _) (.pure h2)⟩
  · cases h
theorem de_var (i : Nat) {x : Str} {pos : Pos} (hN : X.N[i]? = some x := by rfl) (hv : Vis X.env.scope x := by first | exact Or.inl rfl | exact Or.inr (Or.inl rfl) | exact Or.inr (Or.inr rfl)) (hd : (x == ("__debug__" : Str)) = false := by decide)
    (hcd : (x == ("__classdict__" : Str)) = false := by decide) : DE C X (.Name x pos) (tVar i) (mVar i) := ⟨pe_var hN hv hd hcd, snd_var⟩
def mC (d : D) : M := fun _ => some (d, .pure)
theorem snd_c {v : V} {d : D} (h : ∀ H, Rep C H v d) : Snd C (tC v) (mC d) := by
  intro O0 O H σ ρ r s e Q q
  cases e
  exact q _ _ (Evl.Ex.refl _) (.pure (h _))
theorem de_int {i j pos} : DE C X (.Constant (.int i) j pos) (tC (.int i)) (mC (.int i)) := ⟨pe_int, snd_c fun _ => .int _⟩
theorem de_bl {b j pos} : DE C X (.Constant (.bool b) j pos) (tC (.bl b)) (mC (.bl b)) := ⟨pe_bl, snd_c fun _ => .bl _⟩
theorem de_non {j pos} : DE C X (.Constant .none j pos) (tC .non) (mC .non) := ⟨pe_non, snd_c fun _ => .non⟩
theorem de_str {x j pos} : DE C X (.Constant (.str x) j pos) (tC (.str x)) (mC (.str x)) := ⟨pe_str, snd_c fun _ => .str _⟩

/-! ### operations on two values -/
abbrev F2 := D × Fl → D × Fl → Option (D × Fl)
def VR (C : Cfg) (r : R2) (f : F2) : Prop := ∀ O0 O H H' x y rx ry rz, Co O0 O H → Co O0 O H' → Ex H H' → Res C O0 O H H' x rx → Res C O0 O H H' y ry → f rx ry = some rz →
  ∀ Q : VK, (∀ v H'', Ex H' H'' → Res C O0 O H H'' v rz → Q v H'') → r x y H' Q
def mOp (f : F2) (a b : M) : M := fun ρ => (a ρ).bind fun x => (b ρ).bind fun y => f x y
theorem snd_op {r : R2} {f : F2} {ta tb : TE} {a b : M} (hr : VR C r f) (ha : Snd C ta a) (hb : Snd C tb b) : Snd C (tOp r ta tb) (mOp f a b) := by
  intro O0 O H σ ρ rz s h Q q
  unfold mOp at h
  cases ea : a ρ with
  | none => rw [ea] at h; cases h
  | some rx =>
    cases eb : b ρ with
    | none => rw [ea, eb] at h; cases h
    | some ry =>
      rw [ea, eb] at h
      refine ha _ _ _ _ _ _ s ea _ fun x H1 e1 r1 => ?_
      refine hb _ _ _ _ _ _ (s.mono e1) eb _ fun y H2 e2 r2 => ?_
      exact hr _ _ _ _ _ _ _ _ _ s.co ((s.mono e1).mono e2).co (e1.trans e2) (r1.mono e2) (r2.back e1) h Q fun v H3 e3 r3 => q v H3 ((e1.trans e2).trans e3) r3
theorem VR.or {r r' : R2} {f f' : F2} (h : VR C r f) (h' : VR C r' f') : VR C (fun x y H Q => r x y H Q ∨ r' x y H Q) (fun x y => (f x y).or (f' x y)) := by
  intro O0 O H H' x y rx ry rz c c' e r1 r2 hf Q q
  replace hf : (f rx ry).or (f' rx ry) = some rz := hf
  cases ef : f rx ry with
  | some z => rw [ef] at hf; cases hf; exact .inl (h _ _ _ _ _ _ _ _ _ c c' e r1 r2 ef Q q)
  | none => rw [ef] at hf; exact .inr (h' _ _ _ _ _ _ _ _ _ c c' e r1 r2 hf Q q)
variable {a b c : Expr} {ta tb tc : TE} {ma mb mc : M} {pos : Pos}
theorem de_op {op : Operator} {r : R2} {f : F2} (ho : OpR X (binaryOp op) r) (hv : VR C r f) (ha : DE C X a ta ma) (hb : DE C X b tb mb) : DE C X (.BinOp a op b pos) (tOp r ta tb) (mOp f ma mb) :=
  ⟨pe_op ho ha.pe hb.pe, snd_op hv ha.sd hb.sd⟩
theorem de_cmp {op : CmpOp} {r : R2} {f : F2} (ho : OpR X (compareOp op) r) (hv : VR C r f) (ha : DE C X a ta ma) (hb : DE C X b tb mb) (hm : behindInMarks op b = false := by first | exact nobehind _ (by decide) (by decide) | rfl) : DE C X (.Compare a [op] [b] pos) (tOp r ta tb) (mOp f ma mb) :=
  ⟨pe_cmpR ho ha.pe hb.pe hm, snd_op hv ha.sd hb.sd⟩

/-! ints -/
def fI (g : Int → Int → Option D) : F2 := fun x y => match x.1, y.1 with
  | .int i, .int j => (g i j).map fun d => (d, .pure)
  | _, _ => none
theorem vr_I {P : Int → Int → Prop} [∀ i j, Decidable (P i j)] {g : Int → Int → Int} : VR C (rI P fun i j => .int (g i j)) (fI fun i j => if P i j then some (.int (g i j)) else none) := by
  intro O0 O H H' x y rx ry rz _ _ _ r1 r2 hf Q q
  obtain ⟨d1, f1⟩ := rx; obtain ⟨d2, f2⟩ := ry
  unfold fI at hf
  split at hf
  · rename_i i j e1 e2
    simp only at e1 e2; subst e1; subst e2
    dsimp only at hf
    split at hf
    · rename_i hp
      cases hf
      cases r1.intE; cases r2.intE
      exact ⟨i, j, rfl, rfl, hp, q _ _ (Evl.Ex.refl _) .int⟩
    · cases hf
  · cases hf
theorem vr_I0 {g : Int → Int → Int} : VR C (rI0 fun i j => .int (g i j)) (fI fun i j => some (.int (g i j))) := by
  intro O0 O H H' x y rx ry rz _ _ _ r1 r2 hf Q q
  obtain ⟨d1, f1⟩ := rx; obtain ⟨d2, f2⟩ := ry
  unfold fI at hf
  split at hf
  · rename_i i j e1 e2
    simp only at e1 e2; subst e1; subst e2
    cases hf
    cases r1.intE; cases r2.intE
    exact ⟨i, j, rfl, rfl, q _ _ (Evl.Ex.refl _) .int⟩
  · cases hf
theorem vr_Ib {g : Int → Int → Bool} : VR C (rI0 fun i j => .bl (g i j)) (fI fun i j => some (.bl (g i j))) := by
  intro O0 O H H' x y rx ry rz _ _ _ r1 r2 hf Q q
  obtain ⟨d1, f1⟩ := rx; obtain ⟨d2, f2⟩ := ry
  unfold fI at hf
  split at hf
  · rename_i i j e1 e2
    simp only at e1 e2; subst e1; subst e2
    cases hf
    cases r1.intE; cases r2.intE
    exact ⟨i, j, rfl, rfl, q _ _ (Evl.Ex.refl _) .bl⟩
  · cases hf
instance {i j : Int} : Decidable (CMul i j) := by unfold CMul; infer_instance
instance {i j : Int} : Decidable (CDiv i j) := by unfold CDiv; infer_instance
instance {i j : Int} : Decidable (CPow i j) := by unfold CPow; infer_instance

/-- tuples, lists put together -/
def fCatT : F2 := fun x y => match x.1, y.1 with
  | .tup ds, .tup es => if ds.length + es.length ≤ lim then some (.tup (ds ++ es), .pure) else none
  | _, _ => none
theorem vr_catT : VR C (rCatA K) fCatT := by
  intro O0 O H H' x y rx ry rz c c' e r1 r2 hf Q q
  obtain ⟨d1, f1⟩ := rx; obtain ⟨d2, f2⟩ := ry
  unfold fCatT at hf
  split at hf
  · rename_i ds es e1 e2
    simp only at e1 e2; subst e1; subst e2
    split at hf
    · rename_i hl
      cases hf
      obtain ⟨p, xs, rfl, h1, h2⟩ := r1.tupE
      obtain ⟨p', ys, rfl, h1', h2'⟩ := r2.tupE
      have l1 := h2.length
      have l2 := h2'.length
      refine ⟨p, p', xs, ys, rfl, rfl, .inl (.inl h1), .inl (.inl h1'), lim_line (by omega), fun z => ?_, fun _ z => ?_, fun _ _ a ha => ?_⟩
      · subst z
        cases h2
        refine q _ _ (Evl.Ex.refl _) ?_
        cases r2 with | pure w => exact .pure w
      · subst z
        cases h2'
        rw [List.append_nil] at q
        refine q _ _ (Evl.Ex.refl _) ?_
        cases r1 with | pure w => exact .pure w
      · exact q _ _ (Evl.Ex.new ha) (res_tup c' ha (h2.append h2'))
    · cases hf
  · cases hf
def fCatL : F2 := fun x y => match x.1, y.1 with
  | .lst ds, .lst es => if ds.length + es.length ≤ lim then some (.lst (ds ++ es), .fresh) else none
  | _, _ => none
theorem vr_catL : VR C rCat fCatL := by
  intro O0 O H H' x y rx ry rz c c' e r1 r2 hf Q q
  obtain ⟨d1, f1⟩ := rx; obtain ⟨d2, f2⟩ := ry
  unfold fCatL at hf
  split at hf
  · rename_i ds es e1 e2
    simp only at e1 e2; subst e1; subst e2
    split at hf
    · rename_i hl
      cases hf
      obtain ⟨p, xs, rfl, h1, h2⟩ := r1.lstE
      obtain ⟨p', ys, rfl, h1', h2'⟩ := r2.lstE
      have l1 := h2.length
      have l2 := h2'.length
      exact ⟨p, p', xs, ys, rfl, rfl, h1, h1', lim_line (by omega), fun a ha => q _ _ (Evl.Ex.new ha) (res_lst e ha (h2.append h2'))⟩
    · cases hf
  · cases hf
def fRepL : F2 := fun x y => match x.1, y.1 with
  | .lst ds, .int k => if 0 ≤ k ∧ k ≤ lim ∧ ds.length * k.toNat ≤ lim then some (.lst (List.replicate k.toNat ds).flatten, .fresh) else none
  | _, _ => none
theorem vr_repL : VR C rRep fRepL := by
  intro O0 O H H' x y rx ry rz c c' e r1 r2 hf Q q
  obtain ⟨d1, f1⟩ := rx; obtain ⟨d2, f2⟩ := ry
  unfold fRepL at hf
  split at hf
  · rename_i ds k e1 e2
    simp only at e1 e2; subst e1; subst e2
    split at hf
    · rename_i hl
      cases hf
      obtain ⟨p, xs, rfl, h1, h2⟩ := r1.lstE
      cases r2.intE
      have l1 := h2.length
      have hk := hl.2.1
      unfold lim at hk
      exact ⟨p, k, xs, rfl, rfl, h1, by omega, by omega, lim_line (by rw [l1]; exact hl.2.2), fun a ha => q _ _ (Evl.Ex.new ha) (res_lst e ha (h2.rep _))⟩
    · cases hf
  · cases hf
abbrev fAdd : F2 := fun x y => (fI (fun i j => some (.int (i + j))) x y).or ((fCatT x y).or (fCatL x y))
theorem de_add (hK : X.K = K) (ha : DE C X a ta ma) (hb : DE C X b tb mb) : DE C X (.BinOp a .Add b pos) (tOp (fun x y H Q => rI0 (fun i j => .int (i + j)) x y H Q ∨ (rCatA K x y H Q ∨ rCat x y H Q)) ta tb) (mOp fAdd ma mb) := by
  subst hK
  exact de_op (op_add.or (op_catA.or op_cat)) (vr_I0.or (vr_catT.or vr_catL)) ha hb
abbrev fSub : F2 := fI fun i j => some (.int (i - j))
theorem de_sub (ha : DE C X a ta ma) (hb : DE C X b tb mb) : DE C X (.BinOp a .Sub b pos) (tOp (rI0 fun i j => .int (i - j)) ta tb) (mOp fSub ma mb) := de_op op_sub vr_I0 ha hb
abbrev fMul : F2 := fun x y => (fI (fun i j => if CMul i j then some (.int (i * j)) else none) x y).or (fRepL x y)
theorem de_mul (ha : DE C X a ta ma) (hb : DE C X b tb mb) : DE C X (.BinOp a .Mult b pos) (tOp (fun x y H Q => rI CMul (fun i j => .int (i * j)) x y H Q ∨ rRep x y H Q) ta tb) (mOp fMul ma mb) := de_op (op_mul.or op_rep) (vr_I.or vr_repL) ha hb
abbrev fDiv : F2 := fI fun i j => if CDiv i j then some (.int (i / j)) else none
theorem de_div (ha : DE C X a ta ma) (hb : DE C X b tb mb) : DE C X (.BinOp a .FloorDiv b pos) (tOp (rI CDiv fun i j => .int (i / j)) ta tb) (mOp fDiv ma mb) := de_op op_fdiv vr_I ha hb
abbrev fMod : F2 := fI fun i j => if 0 < j then some (.int (i % j)) else none
theorem de_mod (ha : DE C X a ta ma) (hb : DE C X b tb mb) : DE C X (.BinOp a .Mod b pos) (tOp (rI (fun _ j => 0 < j) fun i j => .int (i % j)) ta tb) (mOp fMod ma mb) := de_op op_mod (vr_I (P := fun _ j => 0 < j)) ha hb
abbrev fPow : F2 := fI fun i j => if CPow i j then some (.int (i ^ j.toNat)) else none
theorem de_pow (ha : DE C X a ta ma) (hb : DE C X b tb mb) : DE C X (.BinOp a .Pow b pos) (tOp (rI CPow fun i j => .int (i ^ j.toNat)) ta tb) (mOp fPow ma mb) := de_op op_pow vr_I ha hb
/-! comparisons of ints -/
abbrev fLt : F2 := fI fun i j => some (.bl (decide (i < j)))
abbrev fLe : F2 := fI fun i j => some (.bl (decide (i ≤ j)))
abbrev fGt : F2 := fI fun i j => some (.bl (decide (j < i)))
abbrev fGe : F2 := fI fun i j => some (.bl (decide (j ≤ i)))

/-! ### == -/
mutual
def py : D → PyData
  | .non => .none | .bl b => .bool b | .int i => .int i | .str s => .str s | .tup l => .tuple (pys l) | .lst l => .list (pys l) | .net _ _ => .dict [] | .frz _ => .dict [] | .opq _ => .dict []
def pys : List D → List PyData
  | [] => []
  | d :: ds => py d :: pys ds
end
mutual
def isDat : D → Bool
  | .net _ _ => false | .frz _ => false | .opq _ => false | .tup l => isDats l | .lst l => isDats l | _ => true
def isDats : List D → Bool
  | [] => true
  | d :: ds => isDat d && isDats ds
end
mutual
theorem Rep.dp : ∀ {d : D} {v : V}, isDat d = true → Rep C H v d → Dp K H v (py d)
  | .non, _, _, h => by cases h; exact .non
  | .bl _, _, _, h => by cases h; exact .bl _
  | .int _, _, _, h => by cases h; exact .int _
  | .str _, _, _, h => by cases h; exact .str _
  | .tup ds, _, i, h => by cases h with | tup h1 h2 => exact .tup (.inl (.inl h1)) (Reps.dp (by simpa [isDat] using i) h2)
  | .lst ds, _, i, h => by cases h with | lst h1 h2 => exact .lst (.inl (.inl h1)) (Reps.dp (by simpa [isDat] using i) h2)
  | .net _ _, _, i, _ => by simp [isDat] at i
  | .frz _, _, i, _ => by simp [isDat] at i
  | .opq _, _, i, _ => by simp [isDat] at i
theorem Reps.dp : ∀ {ds : List D} {vs : List V}, isDats ds = true → Reps C H vs ds → DpAll K H vs (pys ds)
  | [], _, _, h => by cases h; exact .nil
  | _ :: _, _, i, h => by
    simp only [isDats, Bool.and_eq_true] at i
    cases h with | cons h1 h2 => exact .cons (Rep.dp i.1 h1) (Reps.dp i.2 h2)
end
def okD (d : D) : Bool := isDat d && SeqAt.shaped (py d)
def fEq : F2 := fun x y => if okD x.1 && okD y.1 then some (.bl (PyData.eqv (py x.1) (py y.1)), .pure) else none
def fNe : F2 := fun x y => if okD x.1 && okD y.1 then some (.bl (!PyData.eqv (py x.1) (py y.1)), .pure) else none
theorem vr_eq : VR C (rEqD K) fEq := by
  intro O0 O H H' x y rx ry rz c c' e r1 r2 hf Q q
  unfold fEq at hf
  split at hf
  · rename_i hk
    cases hf
    simp only [okD, Bool.and_eq_true] at hk
    exact ⟨_, _, r1.full.dp hk.1.1, r2.full.dp hk.2.1, hk.1.2, hk.2.2, q _ _ (Evl.Ex.refl _) .bl⟩
  · cases hf
theorem vr_ne : VR C (rNeD K) fNe := by
  intro O0 O H H' x y rx ry rz c c' e r1 r2 hf Q q
  unfold fNe at hf
  split at hf
  · rename_i hk
    cases hf
    simp only [okD, Bool.and_eq_true] at hk
    exact ⟨_, _, r1.full.dp hk.1.1, r2.full.dp hk.2.1, hk.1.2, hk.2.2, q _ _ (Evl.Ex.refl _) .bl⟩
  · cases hf
/-! in -/
def fIn : F2 := fun x y => match y.1 with
  | .lst ds => if okD x.1 && okD (.lst ds) then some (.bl ((pys ds).any fun z => PyData.eqv z (py x.1)), .pure) else none
  | _ => none
def fNotIn : F2 := fun x y => match y.1 with
  | .lst ds => if okD x.1 && okD (.lst ds) then some (.bl (!(pys ds).any fun z => PyData.eqv z (py x.1)), .pure) else none
  | _ => none
theorem vr_in : VR C (rInD K) fIn := by
  intro O0 O H H' x y rx ry rz c c' e r1 r2 hf Q q
  obtain ⟨d2, f2⟩ := ry
  unfold fIn at hf
  split at hf
  · rename_i ds e2
    simp only at e2; subst e2
    split at hf
    · rename_i hk
      cases hf
      simp only [okD, Bool.and_eq_true] at hk
      refine ⟨_, _, r1.full.dp hk.1.1, ?_, hk.1.2, ?_, q _ _ (Evl.Ex.refl _) .bl⟩
      · have := (r2.full).dp (K := K) hk.2.1
        simpa [py] using this
      · have := hk.2.2
        simpa [py] using this
    · cases hf
  · cases hf
theorem vr_notIn : VR C (rNotInD K) fNotIn := by
  intro O0 O H H' x y rx ry rz c c' e r1 r2 hf Q q
  obtain ⟨d2, f2⟩ := ry
  unfold fNotIn at hf
  split at hf
  · rename_i ds e2
    simp only at e2; subst e2
    split at hf
    · rename_i hk
      cases hf
      simp only [okD, Bool.and_eq_true] at hk
      refine ⟨_, _, r1.full.dp hk.1.1, ?_, hk.1.2, ?_, q _ _ (Evl.Ex.refl _) .bl⟩
      · have := (r2.full).dp (K := K) hk.2.1
        simpa [py] using this
      · have := hk.2.2
        simpa [py] using this
    · cases hf
  · cases hf
/-! flat in a tuple (or list) of flat ones -/
def flatD : D → Bool
  | .non => true | .bl _ => true | .int _ => true | .str _ => true | _ => false
def eqF : D → D → Bool
  | .non, .non => true
  | .bl a, .bl b => a == b
  | .bl a, .int b => (if a then 1 else 0) == b
  | .int a, .bl b => a == (if b then 1 else 0)
  | .int a, .int b => a == b
  | .str a, .str b => a == b
  | _, _ => false
theorem flat_rep {d : D} {v : V} (h : flatD d = true) (r : Rep C H v d) : flatV v = true ∧ ∀ {d' : D} {v' : V}, flatD d' = true → Rep C H v' d' → eqV v v' = eqF d d' := by
  cases d <;> simp [flatD] at h <;> cases r <;> refine ⟨rfl, fun {d' v'} h' r' => ?_⟩ <;> (cases d' <;> simp [flatD] at h' <;> cases r' <;> rfl)
theorem flats_rep {ds : List D} {vs : List V} (h : ds.all flatD = true) (r : Reps C H vs ds) {d : D} {v : V} (hd : flatD d = true) (rd : Rep C H v d) : vs.all flatV = true ∧ inV v vs = ds.any fun z => eqF z d := by
  induction ds generalizing vs with
  | nil => cases r; exact ⟨rfl, rfl⟩
  | cons e es ih =>
    cases r with
    | cons r1 r2 =>
      simp only [List.all_cons, Bool.and_eq_true] at h
      obtain ⟨i1, i2⟩ := ih h.2 r2
      obtain ⟨f1, f2⟩ := flat_rep h.1 r1
      refine ⟨by simp [f1, i1], ?_⟩
      unfold inV at i2 ⊢
      simp only [List.any_cons, i2, f2 hd rd]
def fInF (neg : Bool) : F2 := fun x y => match y.1 with
  | .tup ds => if flatD x.1 && ds.all flatD then some (.bl (if neg then !(ds.any fun z => eqF z x.1) else ds.any fun z => eqF z x.1), .pure) else none
  | .lst ds => if flatD x.1 && ds.all flatD then some (.bl (if neg then !(ds.any fun z => eqF z x.1) else ds.any fun z => eqF z x.1), .pure) else none
  | _ => none
theorem vr_inF {neg : Bool} : VR C (rIn K neg) (fInF neg) := by
  intro O0 O H H' x y rx ry rz c c' e r1 r2 hf Q q
  obtain ⟨d2, f2⟩ := ry
  unfold fInF at hf
  split at hf
  · rename_i ds e2
    simp only at e2; subst e2
    split at hf
    · rename_i hk
      cases hf
      simp only [Bool.and_eq_true] at hk
      obtain ⟨p, xs, rfl, h1, h2⟩ := r2.tupE
      have h2 := h2.mono hid_ex
      obtain ⟨g1, g2⟩ := flats_rep hk.2 h2 hk.1 r1.full
      exact ⟨p, xs, rfl, .inr (.inl (.inl h1)), (flat_rep hk.1 r1.full).1, g1, by rw [g2]; exact q _ _ (Evl.Ex.refl _) .bl⟩
    · cases hf
  · rename_i ds e2
    simp only at e2; subst e2
    split at hf
    · rename_i hk
      cases hf
      simp only [Bool.and_eq_true] at hk
      obtain ⟨p, xs, rfl, h1, h2⟩ := r2.lstE
      have h2 := h2.mono hid_ex
      obtain ⟨g1, g2⟩ := flats_rep hk.2 h2 hk.1 r1.full
      exact ⟨p, xs, rfl, .inl (.inl (.inl h1)), (flat_rep hk.1 r1.full).1, g1, by rw [g2]; exact q _ _ (Evl.Ex.refl _) .bl⟩
    · cases hf
  · cases hf
/-! is -/
def fIsN (neg : Bool) : F2 := fun x y => match y.1 with
  | .non => some (.bl (if neg then !(match x.1 with | .non => true | _ => false) else match x.1 with | .non => true | _ => false), .pure)
  | _ => none
theorem vr_isN : VR C (fun x y H Q => y = .non ∧ Q (.bl (decide (x = .non))) H) (fIsN false) := by
  intro O0 O H H' x y rx ry rz c c' e r1 r2 hf Q q
  obtain ⟨d1, f1⟩ := rx; obtain ⟨d2, f2⟩ := ry
  unfold fIsN at hf
  split at hf
  · rename_i e2
    simp only at e2; subst e2
    cases hf
    cases r2.nonE
    refine ⟨rfl, q _ _ (Evl.Ex.refl _) ?_⟩
    have k := r1.full
    cases d1 <;> cases k <;> exact .bl
  · cases hf
theorem vr_notN : VR C (fun x y H Q => y = .non ∧ Q (.bl (!decide (x = .non))) H) (fIsN true) := by
  intro O0 O H H' x y rx ry rz c c' e r1 r2 hf Q q
  obtain ⟨d1, f1⟩ := rx; obtain ⟨d2, f2⟩ := ry
  unfold fIsN at hf
  split at hf
  · rename_i e2
    simp only at e2; subst e2
    cases hf
    cases r2.nonE
    refine ⟨rfl, q _ _ (Evl.Ex.refl _) ?_⟩
    have k := r1.full
    cases d1 <;> cases k <;> exact .bl
  · cases hf
def fIsB (neg : Bool) : F2 := fun x y => match x.1, y.1 with
  | .bl a, .bl b => some (.bl (if neg then !decide (a = b) else decide (a = b)), .pure)
  | _, _ => none
theorem vr_isB : VR C rIsB (fIsB false) := by
  intro O0 O H H' x y rx ry rz c c' e r1 r2 hf Q q
  obtain ⟨d1, f1⟩ := rx; obtain ⟨d2, f2⟩ := ry
  unfold fIsB at hf
  split at hf
  · rename_i i j e1 e2
    simp only at e1 e2; subst e1; subst e2
    cases hf
    cases r1.blE; cases r2.blE
    exact ⟨i, j, rfl, rfl, q _ _ (Evl.Ex.refl _) .bl⟩
  · cases hf
theorem vr_notB : VR C rNotB (fIsB true) := by
  intro O0 O H H' x y rx ry rz c c' e r1 r2 hf Q q
  obtain ⟨d1, f1⟩ := rx; obtain ⟨d2, f2⟩ := ry
  unfold fIsB at hf
  split at hf
  · rename_i i j e1 e2
    simp only at e1 e2; subst e1; subst e2
    cases hf
    cases r1.blE; cases r2.blE
    exact ⟨i, j, rfl, rfl, q _ _ (Evl.Ex.refl _) .bl⟩
  · cases hf

/-! ### comparisons, all -/
section
variable {a b c : Expr} {ta tb tc : TE} {ma mb mc : M} {pos : Pos}
theorem de_lt (ha : DE C X a ta ma) (hb : DE C X b tb mb) : DE C X (.Compare a [.Lt] [b] pos) (tOp (rI0 fun i j => .bl (decide (i < j))) ta tb) (mOp fLt ma mb) := de_cmp op_lt vr_Ib ha hb
theorem de_le (ha : DE C X a ta ma) (hb : DE C X b tb mb) : DE C X (.Compare a [.LtE] [b] pos) (tOp (rI0 fun i j => .bl (decide (i ≤ j))) ta tb) (mOp fLe ma mb) := de_cmp op_le vr_Ib ha hb
theorem de_gt (ha : DE C X a ta ma) (hb : DE C X b tb mb) : DE C X (.Compare a [.Gt] [b] pos) (tOp (rI0 fun i j => .bl (decide (j < i))) ta tb) (mOp fGt ma mb) := de_cmp op_gt vr_Ib ha hb
theorem de_ge (ha : DE C X a ta ma) (hb : DE C X b tb mb) : DE C X (.Compare a [.GtE] [b] pos) (tOp (rI0 fun i j => .bl (decide (j ≤ i))) ta tb) (mOp fGe ma mb) := de_cmp op_ge vr_Ib ha hb
theorem de_eq {k : Nat} (hK : X.K = K) (hr : Room k X.A) (ha : DE C X a ta ma) (hb : DE C X b tb mb) : DE C X (.Compare a [.Eq] [b] pos) (tOp (rEqD K) ta tb) (mOp fEq ma mb) := by subst hK; exact de_cmp (op_eqD hr.units) vr_eq ha hb
theorem de_ne {k : Nat} (hK : X.K = K) (hr : Room k X.A) (ha : DE C X a ta ma) (hb : DE C X b tb mb) : DE C X (.Compare a [.NotEq] [b] pos) (tOp (rNeD K) ta tb) (mOp fNe ma mb) := by subst hK; exact de_cmp (op_neD hr.units) vr_ne ha hb
theorem un65 {k : Nat} {A : Around} (hr : Room k A) : A.units + 65 < cLine := by have := hr.un; omega
/-- in: a tuple of flat ones, a list of data -/
theorem de_in {k : Nat} (hK : X.K = K) (hr : Room k X.A) (ha : DE C X a ta ma) (hb : DE C X b tb mb) (hm : behindInMarks .In b = false := by rfl) : DE C X (.Compare a [.In] [b] pos) (tOp (fun x y H Q => rIn K false x y H Q ∨ rInD K x y H Q) ta tb) (mOp (fun x y => (fInF false x y).or (fIn x y)) ma mb) := by
  subst hK; exact de_cmp (op_in_seq.or (op_inD (un65 hr))) (vr_inF.or vr_in) ha hb hm
theorem de_notIn {k : Nat} (hK : X.K = K) (hr : Room k X.A) (ha : DE C X a ta ma) (hb : DE C X b tb mb) (hm : behindInMarks .NotIn b = false := by rfl) : DE C X (.Compare a [.NotIn] [b] pos) (tOp (fun x y H Q => rIn K true x y H Q ∨ rNotInD K x y H Q) ta tb) (mOp (fun x y => (fInF true x y).or (fNotIn x y)) ma mb) := by
  subst hK; exact de_cmp (op_notIn_seq.or (op_notInD (un65 hr))) (vr_inF.or vr_notIn) ha hb hm
theorem de_isN (ha : DE C X a ta ma) (hb : DE C X b tb mb) : DE C X (.Compare a [.Is] [b] pos) (tOp (fun x y H Q => y = .non ∧ Q (.bl (decide (x = .non))) H) ta tb) (mOp (fIsN false) ma mb) := de_cmp op_isN vr_isN ha hb
theorem de_notN (ha : DE C X a ta ma) (hb : DE C X b tb mb) : DE C X (.Compare a [.IsNot] [b] pos) (tOp (fun x y H Q => y = .non ∧ Q (.bl (!decide (x = .non))) H) ta tb) (mOp (fIsN true) ma mb) := de_cmp op_notN vr_notN ha hb
theorem de_isB (ha : DE C X a ta ma) (hb : DE C X b tb mb) : DE C X (.Compare a [.Is] [b] pos) (tOp rIsB ta tb) (mOp (fIsB false) ma mb) := de_cmp op_isBl vr_isB ha hb
theorem de_notB (ha : DE C X a ta ma) (hb : DE C X b tb mb) : DE C X (.Compare a [.IsNot] [b] pos) (tOp rNotB ta tb) (mOp (fIsB true) ma mb) := de_cmp op_notBl vr_notB ha hb
/-! chains of two: 0 <= i < n -/
def mChain (f f' : F2) (a b c : M) : M := fun ρ => (a ρ).bind fun x => (b ρ).bind fun y => (f x y).bind fun z => match z.1 with
  | .bl true => (c ρ).bind fun w => f' y w
  | .bl false => some (.bl false, .pure)
  | _ => none
theorem snd_chain {r r' : R2} {f f' : F2} (hr : VR C r f) (hr' : VR C r' f') (ha : Snd C ta ma) (hb : Snd C tb mb) (hc : Snd C tc mc) : Snd C (tChain r r' ta tb tc) (mChain f f' ma mb mc) := by
  intro O0 O H σ ρ rz s h Q q
  unfold mChain at h
  cases ea : ma ρ with
  | none => rw [ea] at h; cases h
  | some rx =>
    cases eb : mb ρ with
    | none => rw [ea, eb] at h; cases h
    | some ry =>
      rw [ea, eb] at h
      replace h : ((f rx ry).bind fun z => match z.1 with
        | .bl true => (mc ρ).bind fun w => f' ry w
        | .bl false => some (.bl false, .pure)
        | _ => none) = some rz := h
      cases ef : f rx ry with
      | none => rw [ef] at h; cases h
      | some rk =>
        rw [ef] at h
        refine ha _ _ _ _ _ _ s ea _ fun x H1 e1 r1 => ?_
        refine hb _ _ _ _ _ _ (s.mono e1) eb _ fun y H2 e2 r2 => ?_
        have s2 := (s.mono e1).mono e2
        refine hr _ _ _ _ _ _ _ _ _ s.co s2.co (e1.trans e2) (r1.mono e2) (r2.back e1) ef _ fun z H3 e3 r3 => ?_
        have s3 := s2.mono e3
        have e13 := (e1.trans e2).trans e3
        obtain ⟨d3, f3⟩ := rk
        cases d3 with
        | bl k =>
          cases r3.blE
          cases k with
          | true =>
            refine ⟨true, rfl, ?_⟩
            replace h : ((mc ρ).bind fun w => f' ry w) = some rz := h
            cases ec : mc ρ with
            | none => rw [ec] at h; cases h
            | some rw' =>
              rw [ec] at h
              refine hc _ _ _ _ _ _ s3 ec _ fun w H4 e4 r4 => ?_
              exact hr' _ _ _ _ _ _ _ _ _ s.co (s3.mono e4).co (e13.trans e4) (((r2.back e1).mono e3).mono e4) (r4.back e13) h Q fun v H5 e5 r5 => q v H5 ((e13.trans e4).trans e5) r5
          | false =>
            refine ⟨false, rfl, ?_⟩
            cases h
            exact q _ _ e13 .bl
        | _ => cases h
end
end
end Dt

set_option maxRecDepth 100000
namespace Dt
open PySem PySem.Spec PyProof.Rows L2
open Evl (Ex)
section
variable {C : Cfg} {K : PySem.W.Frag} {X : Cx} {O0 O : List Addr} {H H' H1 : Hp} {σ : L2.St} {ρ : E}
variable {a b c : Expr} {rest es : List Expr} {ta tb tc te : TE} {ma mb mc me : M} {pos : Pos} {tA tB' : TT} {bA bB : B}

/-! ### tests -/
def mB (m : M) : B := fun ρ => (m ρ).bind fun r => match r.1 with | .bl k => some k | _ => none
theorem snd_test (h : Snd C ta ma) : SndT C (fun σ H Q => ta σ H fun x H' => ∃ k, x = .bl k ∧ Q k H') (mB ma) := by
  intro O0 O H σ ρ r s h1 Q q
  unfold mB at h1
  cases ea : ma ρ with
  | none => rw [ea] at h1; cases h1
  | some rx =>
    rw [ea] at h1
    obtain ⟨d, fl⟩ := rx
    cases d with
    | bl k =>
      cases h1
      refine h _ _ _ _ _ _ s ea _ fun v H' e r => ?_
      exact ⟨_, r.blE, q _ e⟩
    | _ => cases h1
theorem dt_cmp {op : CmpOp} {r : R2} {f : F2} (ho : OpR X (compareOp op) r) (hv : VR C r f) (ha : DE C X a ta ma) (hb : DE C X b tb mb) (hm : behindInMarks op b = false := by first | exact nobehind _ (by decide) (by decide) | rfl) :
    DT C X (.Compare a [op] [b] pos) (tTest (tOp r ta tb)) (mB (mOp f ma mb)) := ⟨pt_cmpR ho ha.pe hb.pe hm, snd_test (snd_op hv ha.sd hb.sd)⟩
theorem dt_lt (ha : DE C X a ta ma) (hb : DE C X b tb mb) : DT C X (.Compare a [.Lt] [b] pos) (tTest (tOp (rI0 fun i j => .bl (decide (i < j))) ta tb)) (mB (mOp fLt ma mb)) := dt_cmp op_lt vr_Ib ha hb
theorem dt_le (ha : DE C X a ta ma) (hb : DE C X b tb mb) : DT C X (.Compare a [.LtE] [b] pos) (tTest (tOp (rI0 fun i j => .bl (decide (i ≤ j))) ta tb)) (mB (mOp fLe ma mb)) := dt_cmp op_le vr_Ib ha hb
theorem dt_gt (ha : DE C X a ta ma) (hb : DE C X b tb mb) : DT C X (.Compare a [.Gt] [b] pos) (tTest (tOp (rI0 fun i j => .bl (decide (j < i))) ta tb)) (mB (mOp fGt ma mb)) := dt_cmp op_gt vr_Ib ha hb
theorem dt_ge (ha : DE C X a ta ma) (hb : DE C X b tb mb) : DT C X (.Compare a [.GtE] [b] pos) (tTest (tOp (rI0 fun i j => .bl (decide (j ≤ i))) ta tb)) (mB (mOp fGe ma mb)) := dt_cmp op_ge vr_Ib ha hb
theorem dt_eq {k : Nat} (hK : X.K = K) (hr : Room k X.A) (ha : DE C X a ta ma) (hb : DE C X b tb mb) : DT C X (.Compare a [.Eq] [b] pos) (tTest (tOp (rEqD K) ta tb)) (mB (mOp fEq ma mb)) := by subst hK; exact dt_cmp (op_eqD hr.units) vr_eq ha hb
theorem dt_ne {k : Nat} (hK : X.K = K) (hr : Room k X.A) (ha : DE C X a ta ma) (hb : DE C X b tb mb) : DT C X (.Compare a [.NotEq] [b] pos) (tTest (tOp (rNeD K) ta tb)) (mB (mOp fNe ma mb)) := by subst hK; exact dt_cmp (op_neD hr.units) vr_ne ha hb
theorem dt_in {k : Nat} (hK : X.K = K) (hr : Room k X.A) (ha : DE C X a ta ma) (hb : DE C X b tb mb) (hm : behindInMarks .In b = false := by rfl) : DT C X (.Compare a [.In] [b] pos) (tTest (tOp (fun x y H Q => rIn K false x y H Q ∨ rInD K x y H Q) ta tb)) (mB (mOp (fun x y => (fInF false x y).or (fIn x y)) ma mb)) := by
  subst hK; exact dt_cmp (op_in_seq.or (op_inD (un65 hr))) (vr_inF.or vr_in) ha hb hm
theorem dt_notIn {k : Nat} (hK : X.K = K) (hr : Room k X.A) (ha : DE C X a ta ma) (hb : DE C X b tb mb) (hm : behindInMarks .NotIn b = false := by rfl) : DT C X (.Compare a [.NotIn] [b] pos) (tTest (tOp (fun x y H Q => rIn K true x y H Q ∨ rNotInD K x y H Q) ta tb)) (mB (mOp (fun x y => (fInF true x y).or (fNotIn x y)) ma mb)) := by
  subst hK; exact dt_cmp (op_notIn_seq.or (op_notInD (un65 hr))) (vr_inF.or vr_notIn) ha hb hm
theorem dt_isN (ha : DE C X a ta ma) (hb : DE C X b tb mb) : DT C X (.Compare a [.Is] [b] pos) (tTest (tOp (fun x y H Q => y = .non ∧ Q (.bl (decide (x = .non))) H) ta tb)) (mB (mOp (fIsN false) ma mb)) := dt_cmp op_isN vr_isN ha hb
theorem dt_notN (ha : DE C X a ta ma) (hb : DE C X b tb mb) : DT C X (.Compare a [.IsNot] [b] pos) (tTest (tOp (fun x y H Q => y = .non ∧ Q (.bl (!decide (x = .non))) H) ta tb)) (mB (mOp (fIsN true) ma mb)) := dt_cmp op_notN vr_notN ha hb
theorem dt_isB (ha : DE C X a ta ma) (hb : DE C X b tb mb) : DT C X (.Compare a [.Is] [b] pos) (tTest (tOp rIsB ta tb)) (mB (mOp (fIsB false) ma mb)) := dt_cmp op_isBl vr_isB ha hb
theorem dt_notB (ha : DE C X a ta ma) (hb : DE C X b tb mb) : DT C X (.Compare a [.IsNot] [b] pos) (tTest (tOp rNotB ta tb)) (mB (mOp (fIsB true) ma mb)) := dt_cmp op_notBl vr_notB ha hb
/-- 0 <= i < n -/
abbrev rLe : R2 := rI0 fun i j => .bl (decide (i ≤ j))
abbrev rLt : R2 := rI0 fun i j => .bl (decide (i < j))
theorem de_leLt (ha : DE C X a ta ma) (hb : DE C X b tb mb) (hc : DE C X c tc mc) (hm : lastMarks [.LtE, .Lt] [b, c] = false := by with_unfolding_all rfl) : DE C X (.Compare a [.LtE, .Lt] [b, c] pos) (tChain rLe rLt ta tb tc) (mChain fLe fLt ma mb mc) :=
  ⟨pe_chain op_le op_lt ha.pe hb.pe hc.pe hm, snd_chain vr_Ib vr_Ib ha.sd hb.sd hc.sd⟩
theorem dt_leLt (ha : DE C X a ta ma) (hb : DE C X b tb mb) (hc : DE C X c tc mc) (hm : lastMarks [.LtE, .Lt] [b, c] = false := by with_unfolding_all rfl) : DT C X (.Compare a [.LtE, .Lt] [b, c] pos) (tTest (tChain rLe rLt ta tb tc)) (mB (mChain fLe fLt ma mb mc)) :=
  ⟨pt_chain op_le op_lt ha.pe hb.pe hc.pe hm, snd_test (snd_chain vr_Ib vr_Ib ha.sd hb.sd hc.sd)⟩
/-- a value that is a bool, as a test -/
theorem dt_val (h : DE C X a ta ma) (he : ∀ whole, isTrue a X.env whole = (do let v ← whole; standAt a.pos; holding [v] (truthy v)) := by intro _; rfl) : DT C X a (tB ta) (mB ma) := ⟨pt_val h.pe he, snd_test h.sd⟩
def bNot (m : B) : B := fun ρ => (m ρ).map (!·)
theorem dt_not (h : DT C X a tA bA) : DT C X (.UnaryOp .Not a pos) (tNot tA) (bNot bA) := by
  refine ⟨pt_not h.pt, fun O0 O H σ ρ r s h1 Q q => ?_⟩
  unfold bNot at h1
  cases e : bA ρ with
  | none => rw [e] at h1; cases h1
  | some k => rw [e] at h1; cases h1; exact h.sd _ _ _ _ _ _ s e _ fun H' e' => q H' e'
structure DW (C : Cfg) (X : Cx) (e : Expr) (tt : TT) (m : B) : Prop where
  pw : PW X e tt
  sd : SndT C tt m
theorem DW.t (h : DW C X a tA bA) : DT C X a tA bA := ⟨h.pw.pt, h.sd⟩
def bAnd (m n : B) : B := fun ρ => (m ρ).bind fun k => if k then n ρ else some false
def bOr (m n : B) : B := fun ρ => (m ρ).bind fun k => if k then some true else n ρ
theorem dw_and1 (h : DT C X a tA bA) : DW C X (.BoolOp .And [a] pos) tA bA := ⟨pw_and1 h.pt, h.sd⟩
theorem dw_or1 (h : DT C X a tA bA) : DW C X (.BoolOp .Or [a] pos) tA bA := ⟨pw_or1 h.pt, h.sd⟩
theorem dw_and (ha : DT C X a tA bA) (hb : DW C X (.BoolOp .And (b :: rest) pos) tB' bB) : DW C X (.BoolOp .And (a :: b :: rest) pos) (tAnd tA tB') (bAnd bA bB) := by
  refine ⟨pw_and ha.pt hb.pw, fun O0 O H σ ρ r s h1 Q q => ?_⟩
  unfold bAnd at h1
  cases e : bA ρ with
  | none => rw [e] at h1; cases h1
  | some k =>
    rw [e] at h1
    refine ha.sd _ _ _ _ _ _ s e _ fun H' e' => ?_
    cases k with
    | true => exact hb.sd _ _ _ _ _ _ (s.mono e') h1 _ fun H2 e2 => q H2 (e'.trans e2)
    | false => cases h1; exact q H' e'
theorem dw_or (ha : DT C X a tA bA) (hb : DW C X (.BoolOp .Or (b :: rest) pos) tB' bB) : DW C X (.BoolOp .Or (a :: b :: rest) pos) (tOr tA tB') (bOr bA bB) := by
  refine ⟨pw_or ha.pt hb.pw, fun O0 O H σ ρ r s h1 Q q => ?_⟩
  unfold bOr at h1
  cases e : bA ρ with
  | none => rw [e] at h1; cases h1
  | some k =>
    rw [e] at h1
    refine ha.sd _ _ _ _ _ _ s e _ fun H' e' => ?_
    cases k with
    | true => cases h1; exact q H' e'
    | false => exact hb.sd _ _ _ _ _ _ (s.mono e') h1 _ fun H2 e2 => q H2 (e'.trans e2)
/-! as values -/
def mNot (m : M) : M := fun ρ => (m ρ).bind fun r => match r.1 with | .bl k => some (.bl (!k), .pure) | _ => none
theorem de_not (h : DE C X a ta ma) : DE C X (.UnaryOp .Not a pos) (tNotV ta) (mNot ma) := by
  refine ⟨pe_not h.pe, fun O0 O H σ ρ r s h1 Q q => ?_⟩
  unfold mNot at h1
  cases ea : ma ρ with
  | none => rw [ea] at h1; cases h1
  | some rx =>
    rw [ea] at h1
    obtain ⟨d, fl⟩ := rx
    cases d with
    | bl k =>
      cases h1
      exact h.sd _ _ _ _ _ _ s ea _ fun v H' e r => ⟨k, r.blE, q _ _ e .bl⟩
    | _ => cases h1
def mAnd (m n : M) : M := fun ρ => (m ρ).bind fun r => match r.1 with | .bl k => if k then n ρ else some (.bl false, .pure) | _ => none
def mOr (m n : M) : M := fun ρ => (m ρ).bind fun r => match r.1 with | .bl k => if k then some (.bl true, .pure) else n ρ | _ => none
theorem de_one {op : BoolOp} (h : DE C X a ta ma) : DE C X (.BoolOp op [a] pos) ta ma := ⟨pe_one h.pe, h.sd⟩
theorem de_and (ha : DE C X a ta ma) (hb : DE C X (.BoolOp .And (b :: rest) pos) tb mb) : DE C X (.BoolOp .And (a :: b :: rest) pos) (tAndV ta tb) (mAnd ma mb) := by
  refine ⟨pe_and ha.pe hb.pe, fun O0 O H σ ρ r s h1 Q q => ?_⟩
  unfold mAnd at h1
  cases ea : ma ρ with
  | none => rw [ea] at h1; cases h1
  | some rx =>
    rw [ea] at h1
    obtain ⟨d, fl⟩ := rx
    cases d with
    | bl k =>
      refine ha.sd _ _ _ _ _ _ s ea _ fun v H' e r => ⟨k, r.blE, ?_⟩
      cases k with
      | true => exact hb.sd _ _ _ _ _ _ (s.mono e) h1 _ fun v H2 e2 r2 => q v H2 (e.trans e2) (r2.back e)
      | false => cases h1; exact q _ H' e .bl
    | _ => cases h1
theorem de_or (ha : DE C X a ta ma) (hb : DE C X (.BoolOp .Or (b :: rest) pos) tb mb) : DE C X (.BoolOp .Or (a :: b :: rest) pos) (tOrV ta tb) (mOr ma mb) := by
  refine ⟨pe_or ha.pe hb.pe, fun O0 O H σ ρ r s h1 Q q => ?_⟩
  unfold mOr at h1
  cases ea : ma ρ with
  | none => rw [ea] at h1; cases h1
  | some rx =>
    rw [ea] at h1
    obtain ⟨d, fl⟩ := rx
    cases d with
    | bl k =>
      refine ha.sd _ _ _ _ _ _ s ea _ fun v H' e r => ⟨k, r.blE, ?_⟩
      cases k with
      | false => exact hb.sd _ _ _ _ _ _ (s.mono e) h1 _ fun v H2 e2 r2 => q v H2 (e.trans e2) (r2.back e)
      | true => cases h1; exact q _ H' e .bl
    | _ => cases h1
def mIf (t : B) (m n : M) : M := fun ρ => (t ρ).bind fun k => if k then m ρ else n ρ
theorem de_if (hc : DT C X c tA bA) (ha : DE C X a ta ma) (hb : DE C X b tb mb) : DE C X (.IfExp c a b pos) (tIf tA ta tb) (mIf bA ma mb) := by
  refine ⟨pe_ifExp hc.pt ha.pe hb.pe, fun O0 O H σ ρ r s h1 Q q => ?_⟩
  unfold mIf at h1
  cases e : bA ρ with
  | none => rw [e] at h1; cases h1
  | some k =>
    rw [e] at h1
    refine hc.sd _ _ _ _ _ _ s e _ fun H' e' => ?_
    cases k with
    | true => exact ha.sd _ _ _ _ _ _ (s.mono e') h1 _ fun v H2 e2 r2 => q v H2 (e'.trans e2) (r2.back e')
    | false => exact hb.sd _ _ _ _ _ _ (s.mono e') h1 _ fun v H2 e2 r2 => q v H2 (e'.trans e2) (r2.back e')
def mNeg (m : M) : M := fun ρ => (m ρ).bind fun r => match r.1 with | .int i => some (.int (-i), .pure) | _ => none
theorem de_neg (h : DE C X a ta ma) : DE C X (.UnaryOp .USub a pos) (tUn (rU fun i => .int (-i)) ta) (mNeg ma) := by
  refine ⟨pe_un un_neg h.pe, fun O0 O H σ ρ r s h1 Q q => ?_⟩
  unfold mNeg at h1
  cases ea : ma ρ with
  | none => rw [ea] at h1; cases h1
  | some rx =>
    rw [ea] at h1
    obtain ⟨d, fl⟩ := rx
    cases d with
    | int i =>
      cases h1
      exact h.sd _ _ _ _ _ _ s ea _ fun v H' e r => ⟨i, r.intE, q _ _ e .int⟩
    | _ => cases h1

/-! ### arguments, displays -/
def aNil : As := fun _ => some []
def aCons (m : M) (n : As) : As := fun ρ => (m ρ).bind fun r => (n ρ).map fun rs => r :: rs
theorem da_nil : DA C X [] tNil aNil := ⟨pa_nil, fun O0 O H σ ρ rs s h Q q => by cases h; exact q _ _ (Evl.Ex.refl _) .nil⟩
theorem da_cons {tr : TA} {n : As} (ha : DE C X a ta ma) (hr : DA C X es tr n) (hs : starEach (a :: es) X.env = (false, eval a X.env) :: starEach es X.env := by rfl) : DA C X (a :: es) (tCons ta tr) (aCons ma n) := by
  refine ⟨pa_cons ha.pe hr.pa hs, fun O0 O H σ ρ rs s h1 Q q => ?_⟩
  unfold aCons at h1
  cases ea : ma ρ with
  | none => rw [ea] at h1; cases h1
  | some rx =>
    cases en : n ρ with
    | none => rw [ea, en] at h1; cases h1
    | some rs' =>
      rw [ea, en] at h1
      cases h1
      refine ha.sd _ _ _ _ _ _ s ea _ fun v H1 e1 r1 => ?_
      exact hr.sd _ _ _ _ _ _ (s.mono e1) en _ fun vs H2 e2 r2 => q _ H2 (e1.trans e2) (.cons (r1.mono e2) (r2.back e1))
def nb (rs : List (D × Fl)) : Bool := rs.all fun r => decide (r.2 ≠ .bor)
theorem Ress.shared (dm : ∀ a ∈ O, H a ≠ none) {vs : List V} {rs : List (D × Fl)} (hb : nb rs = true) (h : Ress C O0 O H H' vs rs) : Reps C (hid H' O) vs (rs.map (·.1)) := by
  induction h with
  | nil => exact .nil
  | cons h _ ih =>
    simp only [nb, List.all_cons, Bool.and_eq_true, decide_eq_true_eq] at hb
    exact .cons (h.sharedF dm hb.1) (ih hb.2)
theorem Ress.anys (s : ∀ a ∈ O0, a ∈ O) (dm : ∀ a ∈ O, H a ≠ none) {vs : List V} {rs : List (D × Fl)} (h : Ress C O0 O H H' vs rs) : Reps C (hid H' O0) vs (rs.map (·.1)) := by
  induction h with
  | nil => exact .nil
  | cons h _ ih => exact .cons (h.any s dm) ih
theorem Ress.length {vs : List V} {rs : List (D × Fl)} (h : Ress C O0 O H H' vs rs) : vs.length = rs.length := by
  induction h with
  | nil => rfl
  | cons h _ ih => simp [ih]
def mTup (n : As) : M := fun ρ => (n ρ).bind fun rs => if nb rs && decide (rs.length ≤ lim) then some (.tup (rs.map (·.1)), .pure) else none
def mLst (n : As) : M := fun ρ => (n ρ).bind fun rs => if nb rs && decide (rs.length ≤ lim) then some (.lst (rs.map (·.1)), .fresh) else none
theorem de_tup {t : TA} {n : As} {x1} (h : DA C X es t n) : DE C X (.Tuple es x1 pos) (tTup t) (mTup n) := by
  refine ⟨pe_tup h.pa, fun O0 O H σ ρ r s h1 Q q => ?_⟩
  unfold mTup at h1
  cases en : n ρ with
  | none => rw [en] at h1; cases h1
  | some rs =>
    rw [en] at h1
    replace h1 : (if nb rs && decide (rs.length ≤ lim) then some ((.tup (rs.map (·.1)), .pure) : D × Fl) else none) = some r := h1
    split at h1
    · rename_i hk
      cases h1
      simp only [Bool.and_eq_true, decide_eq_true_eq] at hk
      refine h.sd _ _ _ _ _ _ s en _ fun vs H1 e1 r1 => ⟨lim_line (by rw [r1.length]; exact hk.2), fun p hp => ?_⟩
      exact q _ _ (e1.trans (Evl.Ex.new hp)) (res_tup (s.mono e1).co hp (r1.shared s.dom hk.1))
    · cases h1
theorem de_lst {t : TA} {n : As} (h : DA C X es t n) : DE C X (.List es pos) (tLst t) (mLst n) := by
  refine ⟨pe_lst h.pa, fun O0 O H σ ρ r s h1 Q q => ?_⟩
  unfold mLst at h1
  cases en : n ρ with
  | none => rw [en] at h1; cases h1
  | some rs =>
    rw [en] at h1
    replace h1 : (if nb rs && decide (rs.length ≤ lim) then some ((.lst (rs.map (·.1)), .fresh) : D × Fl) else none) = some r := h1
    split at h1
    · rename_i hk
      cases h1
      simp only [Bool.and_eq_true, decide_eq_true_eq] at hk
      refine h.sd _ _ _ _ _ _ s en _ fun vs H1 e1 r1 => ⟨lim_line (by rw [r1.length]; exact hk.2), fun p hp => ?_⟩
      exact q _ _ (e1.trans (Evl.Ex.new hp)) (res_lst e1 hp (r1.shared s.dom hk.1))
    · cases h1

/-! ### subscripts, slices -/
def fIx : F2 := fun x y => match x.1, y.1 with
  | .lst ds, .int i => (atI ds i).map fun d => (d, .pure)
  | .tup ds, .int i => (atI ds i).map fun d => (d, .pure)
  | .frz ns, .int i => (atI ns i).map fun k => (.int k, .pure)
  | _, _ => none
theorem atI_reps {ds : List D} {vs : List V} {i : Int} {d : D} (h : Reps C H vs ds) (e : atI ds i = some d) : ∃ v, atI vs i = some v ∧ Rep C H v d := by
  unfold atI at e ⊢
  rw [h.length]
  cases q : ixN ds.length i with
  | none => rw [q] at e; cases e
  | some j => rw [q] at e; exact h.get e
theorem vr_ix (hC : C.K = K) : VR C (fun x y H Q => rIxL K x y H Q ∨ rIxT K x y H Q) fIx := by
  intro O0 O H H' x y rx ry rz c c' e r1 r2 hf Q q
  obtain ⟨d1, f1⟩ := rx; obtain ⟨d2, f2⟩ := ry
  unfold fIx at hf
  split at hf
  · rename_i ds i e1 e2
    simp only at e1 e2; subst e1; subst e2
    cases ea : atI ds i with
    | none => rw [ea] at hf; cases hf
    | some d =>
      rw [ea] at hf; cases hf
      obtain ⟨p, xs, rfl, h1, h2⟩ := r1.lstE
      cases r2.intE
      obtain ⟨v, e1, r⟩ := atI_reps h2 ea
      exact .inl ⟨p, xs, i, v, rfl, rfl, .inl (.inl h1), e1, q _ _ (Evl.Ex.refl _) (.pure r)⟩
  · rename_i ds i e1 e2
    simp only at e1 e2; subst e1; subst e2
    cases ea : atI ds i with
    | none => rw [ea] at hf; cases hf
    | some d =>
      rw [ea] at hf; cases hf
      obtain ⟨p, xs, rfl, h1, h2⟩ := r1.tupE
      cases r2.intE
      obtain ⟨v, e1, r⟩ := atI_reps h2 ea
      exact .inr ⟨p, xs, i, v, rfl, rfl, .inl (.inl h1), e1, q _ _ (Evl.Ex.refl _) (.pure r)⟩
  · rename_i ns i e1 e2
    simp only at e1 e2; subst e1; subst e2
    cases ea : atI ns i with
    | none => rw [ea] at hf; cases hf
    | some k =>
      rw [ea] at hf; cases hf
      cases r2.intE
      cases r1 with
      | pure w =>
        cases w with
        | @frz p _ h1 =>
          have h2 := (h1.mono hid_ex).sq
          rw [hC] at h2
          refine .inl ⟨p, ns.map V.int, i, .int k, rfl, rfl, h2, ?_, q _ _ (Evl.Ex.refl _) .int⟩
          unfold atI at ea ⊢
          rw [List.length_map]
          cases qq : ixN ns.length i with
          | none => rw [qq] at ea; cases ea
          | some j =>
            rw [qq] at ea
            show (ns.map V.int)[j]? = _
            rw [List.getElem?_map, show ns[j]? = some k from ea]; rfl
  · cases hf
theorem de_ix (hK : X.K = K) (hC : C.K = K) (ha : DE C X a ta ma) (hb : DE C X b tb mb) (hs : PlainIx b := by exact fun _ _ => rfl) : DE C X (.Subscript a b pos) (tOp (fun x y H Q => rIxL K x y H Q ∨ rIxT K x y H Q) ta tb) (mOp fIx ma mb) := by
  subst hK; exact ⟨pe_ix (ix_list.or ix_tup) ha.pe hb.pe hs, snd_op (vr_ix hC) ha.sd hb.sd⟩
/-- a part of a slice -/
abbrev P := E → Option (Option Int)
structure DO (C : Cfg) (X : Cx) (e : Option Expr) (t : TO) (m : P) : Prop where
  po : PO X e t
  sd : ∀ O0 O H σ ρ o, SV C O0 O H σ ρ → m ρ = some o → ∀ Q : Option Int → Hp → Prop, (∀ H', Ex H H' → Q o H') → t σ H Q
def pNone : P := fun _ => some none
def pSome (m : M) : P := fun ρ => (m ρ).bind fun r => match r.1 with | .int i => some (some i) | _ => none
theorem do_none : DO C X none tNoPart pNone := ⟨po_none, fun O0 O H σ ρ o s h Q q => by cases h; exact q _ (Evl.Ex.refl _)⟩
theorem do_some (h : DE C X a ta ma) : DO C X (some a) (tPart ta) (pSome ma) := by
  refine ⟨po_some h.pe, fun O0 O H σ ρ o s h1 Q q => ?_⟩
  unfold pSome at h1
  cases ea : ma ρ with
  | none => rw [ea] at h1; cases h1
  | some rx =>
    rw [ea] at h1
    obtain ⟨d, fl⟩ := rx
    cases d with
    | int i =>
      cases h1
      exact h.sd _ _ _ _ _ _ s ea _ fun v H' e r => ⟨i, r.intE, q _ e⟩
    | _ => cases h1
def mSl (m : M) (lo hi : P) : M := fun ρ => (m ρ).bind fun r => (lo ρ).bind fun l => (hi ρ).bind fun u => match r.1 with
  | .lst ds => some (.lst (cutD ds l u), .fresh)
  | .tup ds => some (.tup (cutD ds l u), .pure)
  | _ => none
theorem cut_whole {α : Type} {xs : List α} {lo hi : Option Int} (h1 : HT.sIx xs.length 0 lo = 0) (h2 : HT.sIx xs.length xs.length hi = xs.length) : cutD xs lo hi = xs := by
  unfold cutD; rw [h1, h2]; simp
theorem de_sl {lo hi : Option Expr} {tl th : TO} {pl ph : P} {p2 : Pos} (hK : X.K = K) (he : DE C X a ta ma) (hl : DO C X lo tl pl) (hu : DO C X hi th ph) :
    DE C X (.Subscript a (.Slice lo hi none p2) pos) (tSl (fun x l u H Q => rSlL K x l u H Q ∨ rSlA K x l u H Q) ta tl th) (mSl ma pl ph) := by
  subst hK
  refine ⟨pe_slice (sl_list.or sl_tupA) he.pe hl.po hu.po, fun O0 O H σ ρ r s h1 Q q => ?_⟩
  unfold mSl at h1
  cases ea : ma ρ with
  | none => rw [ea] at h1; cases h1
  | some rx =>
    cases el : pl ρ with
    | none => rw [ea, el] at h1; cases h1
    | some l =>
      cases eh : ph ρ with
      | none => rw [ea, el, eh] at h1; cases h1
      | some u =>
        rw [ea, el, eh] at h1
        obtain ⟨d, fl⟩ := rx
        refine he.sd _ _ _ _ _ _ s ea _ fun v H1 e1 r1 => ?_
        refine hl.sd _ _ _ _ _ _ (s.mono e1) el _ fun H2 e2 => ?_
        refine hu.sd _ _ _ _ _ _ ((s.mono e1).mono e2) eh _ fun H3 e3 => ?_
        have e13 := (e1.trans e2).trans e3
        have r3 := (r1.mono e2).mono e3
        cases d with
        | lst ds =>
          cases h1
          obtain ⟨p, xs, rfl, g1, g2⟩ := r3.lstE
          exact .inl ⟨p, xs, rfl, .inl (.inl g1), fun p' hp => q _ _ (e13.trans (Evl.Ex.new hp)) (res_lst e13 hp (cut_reps g2 l u))⟩
        | tup ds =>
          cases h1
          obtain ⟨p, xs, rfl, g1, g2⟩ := r3.tupE
          refine .inr ⟨p, xs, rfl, .inl (.inl g1), fun ⟨w1, w2⟩ => ?_, fun _ p' hp => ?_⟩
          · rw [g2.length] at w1 w2
            refine q _ _ e13 ?_
            rw [cut_whole w1 w2]
            cases r3 with | pure w => exact .pure w
          · exact q _ _ (e13.trans (Evl.Ex.new hp)) (res_tup (s.mono e13).co hp (cut_reps g2 l u))
        | _ => cases h1
end
end Dt

set_option maxRecDepth 100000
namespace Dt
open PySem PySem.Spec PyProof.Rows L2
open Evl (Ex)

/-! ### lists of ints, of bools -/
def getInts : List D → Option (List Int)
  | [] => some []
  | .int i :: r => (getInts r).map (i :: ·)
  | _ => none
def getBls : List D → Option (List Bool)
  | [] => some []
  | .bl i :: r => (getBls r).map (i :: ·)
  | _ => none
theorem ints_of {C : Cfg} {H : Hp} : ∀ {ds : List D} {xs : List V} {ns : List Int}, getInts ds = some ns → Reps C H xs ds → xs = ns.map V.int
  | [], _, _, h, r => by cases h; cases r; rfl
  | d :: ds, _, _, h, r => by
    cases r with
    | cons r1 r2 =>
      cases d <;> first | (simp [getInts] at h; done) | skip
      rename_i i
      simp only [getInts, Option.map_eq_some_iff] at h
      obtain ⟨ns, h1, rfl⟩ := h
      cases r1
      rw [ints_of h1 r2]; rfl
theorem bls_of {C : Cfg} {H : Hp} : ∀ {ds : List D} {xs : List V} {ns : List Bool}, getBls ds = some ns → Reps C H xs ds → xs = ns.map V.bl
  | [], _, _, h, r => by cases h; cases r; rfl
  | d :: ds, _, _, h, r => by
    cases r with
    | cons r1 r2 =>
      cases d <;> first | (simp [getBls] at h; done) | skip
      rename_i i
      simp only [getBls, Option.map_eq_some_iff] at h
      obtain ⟨ns, h1, rfl⟩ := h
      cases r1
      rw [bls_of h1 r2]; rfl
theorem reps_ints {C : Cfg} {H : Hp} : ∀ ns : List Int, Reps C H (ns.map V.int) (ns.map D.int)
  | [] => .nil
  | n :: ns => .cons (.int n) (reps_ints ns)
theorem getInts_map : ∀ ns : List Int, getInts (ns.map D.int) = some ns
  | [] => rfl
  | n :: ns => by simp [getInts, getInts_map ns]
theorem getBls_map : ∀ ns : List Bool, getBls (ns.map D.bl) = some ns
  | [] => rfl
  | n :: ns => by simp [getBls, getBls_map ns]

/-! sorting, by insertion -/
def ins (x : Int) : List Int → List Int
  | [] => [x]
  | y :: r => if x ≤ y then x :: y :: r else y :: ins x r
def isort : List Int → List Int
  | [] => []
  | x :: r => ins x (isort r)
theorem ins_perm (x : Int) : ∀ l : List Int, (ins x l).Perm (x :: l)
  | [] => .refl _
  | y :: r => by
    unfold ins
    split
    · exact .refl _
    · exact .trans (.cons y (ins_perm x r)) (.swap x y r)
theorem isort_perm : ∀ l : List Int, (isort l).Perm l
  | [] => .refl _
  | x :: r => (ins_perm x (isort r)).trans (.cons x (isort_perm r))
theorem ins_sorted (x : Int) : ∀ {l : List Int}, l.Pairwise (· ≤ ·) → (ins x l).Pairwise (· ≤ ·)
  | [], _ => by simp [ins]
  | y :: r, h => by
    unfold ins
    cases h with
    | cons h1 h2 =>
      split
      · rename_i hxy
        refine .cons (fun z hz => ?_) (.cons h1 h2)
        rcases List.mem_cons.mp hz with rfl | hz
        · exact hxy
        · exact Int.le_trans hxy (h1 z hz)
      · rename_i hxy
        refine .cons (fun z hz => ?_) (ins_sorted x h2)
        rcases List.mem_cons.mp ((ins_perm x r).mem_iff.mp hz) with rfl | hz
        · omega
        · exact h1 z hz
theorem isort_sorted : ∀ l : List Int, (isort l).Pairwise (· ≤ ·)
  | [] => .nil
  | x :: r => ins_sorted x (isort_sorted r)
theorem sorted_unique : ∀ {l m : List Int}, l.Perm m → l.Pairwise (· ≤ ·) → m.Pairwise (· ≤ ·) → l = m
  | [], m, p, _, _ => (List.Perm.nil_eq p)
  | x :: l, [], p, _, _ => absurd p.length_eq (by simp)
  | x :: l, y :: m, p, h1, h2 => by
    cases h1 with
    | cons a1 a2 =>
      cases h2 with
      | cons b1 b2 =>
        have e : x = y := by
          have hx : x ∈ y :: m := p.mem_iff.mp List.mem_cons_self
          have hy : y ∈ x :: l := p.mem_iff.mpr List.mem_cons_self
          rcases List.mem_cons.mp hx with e | hx
          · exact e
          · rcases List.mem_cons.mp hy with e | hy
            · exact e.symm
            · exact Int.le_antisymm (a1 y hy) (b1 x hx)
        subst e
        rw [sorted_unique (List.Perm.cons_inv p) a2 b2]
theorem isort_eq {l m : List Int} (p : m.Perm l) (h : m.Pairwise (· ≤ ·)) : m = isort l := sorted_unique (p.trans (isort_perm l).symm) h (isort_sorted l)
def maxL : List Int → Int
  | [] => 0
  | x :: r => r.foldl (fun a b => if b > a then b else a) x
def minL : List Int → Int
  | [] => 0
  | x :: r => r.foldl (fun a b => if b < a then b else a) x
theorem fmax_spec : ∀ (r : List Int) (x : Int), r.foldl (fun a b => if b > a then b else a) x ∈ x :: r ∧ ∀ y ∈ x :: r, y ≤ r.foldl (fun a b => if b > a then b else a) x
  | [], x => by simp
  | z :: r, x => by
    obtain ⟨h1, h2⟩ := fmax_spec r (if z > x then z else x)
    simp only [List.foldl_cons]
    refine ⟨?_, fun y hy => ?_⟩
    · rcases List.mem_cons.mp h1 with e | e
      · rw [e]; split <;> simp
      · exact List.mem_cons_of_mem _ (List.mem_cons_of_mem _ e)
    · have h0 := h2 _ List.mem_cons_self
      rcases List.mem_cons.mp hy with rfl | hy
      · exact Int.le_trans (by split <;> omega) h0
      · rcases List.mem_cons.mp hy with rfl | hy
        · exact Int.le_trans (by split <;> omega) h0
        · exact h2 y (List.mem_cons_of_mem _ hy)
theorem fmin_spec : ∀ (r : List Int) (x : Int), r.foldl (fun a b => if b < a then b else a) x ∈ x :: r ∧ ∀ y ∈ x :: r, r.foldl (fun a b => if b < a then b else a) x ≤ y
  | [], x => by simp
  | z :: r, x => by
    obtain ⟨h1, h2⟩ := fmin_spec r (if z < x then z else x)
    simp only [List.foldl_cons]
    refine ⟨?_, fun y hy => ?_⟩
    · rcases List.mem_cons.mp h1 with e | e
      · rw [e]; split <;> simp
      · exact List.mem_cons_of_mem _ (List.mem_cons_of_mem _ e)
    · have h0 := h2 _ List.mem_cons_self
      rcases List.mem_cons.mp hy with rfl | hy
      · exact Int.le_trans h0 (by split <;> omega)
      · rcases List.mem_cons.mp hy with rfl | hy
        · exact Int.le_trans h0 (by split <;> omega)
        · exact h2 y (List.mem_cons_of_mem _ hy)
theorem maxL_spec {l : List Int} (h : l ≠ []) : maxL l ∈ l ∧ ∀ y ∈ l, y ≤ maxL l := by
  cases l with
  | nil => exact absurd rfl h
  | cons x r => exact fmax_spec r x
theorem minL_spec {l : List Int} (h : l ≠ []) : minL l ∈ l ∧ ∀ y ∈ l, minL l ≤ y := by
  cases l with
  | nil => exact absurd rfl h
  | cons x r => exact fmin_spec r x

section
variable {C : Cfg} {K : PySem.W.Frag} {X : Cx} {O0 O : List Addr} {H H' H1 : Hp} {σ : L2.St} {ρ : E}
variable {a b c e : Expr} {rest es : List Expr} {ta tb tc te : TE} {ma mb mc me : M} {p pos : Pos} {x : Str} {t : TA} {n : As}

/-! ### calls by values -/
abbrev FN := List (D × Fl) → Option (D × Fl)
def VC (C : Cfg) (r : List V → Hp → VK → Prop) (f : FN) : Prop := ∀ O0 O H H' vs rs rz, Co O0 O H → Co O0 O H' → Ex H H' → Ress C O0 O H H' vs rs → f rs = some rz →
  ∀ Q : VK, (∀ v H'', Ex H' H'' → Res C O0 O H H'' v rz → Q v H'') → r vs H' Q
theorem VC.or {r r' : List V → Hp → VK → Prop} {f f' : FN} (h : VC C r f) (h' : VC C r' f') : VC C (fun xs H Q => r xs H Q ∨ r' xs H Q) (fun x => (f x).or (f' x)) := by
  intro O0 O H H' vs rs rz c c' e r1 hf Q q
  replace hf : (f rs).or (f' rs) = some rz := hf
  cases ef : f rs with
  | some z => rw [ef] at hf; cases hf; exact .inl (h _ _ _ _ _ _ _ c c' e r1 ef Q q)
  | none => rw [ef] at hf; exact .inr (h' _ _ _ _ _ _ _ c c' e r1 hf Q q)
def mFn (f : FN) (n : As) : M := fun ρ => (n ρ).bind f
theorem snd_fn {r : List V → Hp → VK → Prop} {f : FN} (hv : VC C r f) (ha : SndA C t n) : Snd C (tCB r t) (mFn f n) := by
  intro O0 O H σ ρ rz s h Q q
  unfold mFn at h
  cases en : n ρ with
  | none => rw [en] at h; cases h
  | some rs =>
    rw [en] at h
    refine ha _ _ _ _ _ _ s en _ fun vs H1 e1 r1 => ?_
    exact hv _ _ _ _ _ _ _ s.co (s.mono e1).co e1 r1 h Q fun v H2 e2 r2 => q v H2 (e1.trans e2) r2
theorem de_callB {id : String} {r : List V → Hp → VK → Prop} {f : FN} (hc : CallR X (.builtin id) r) (hv : VC C r f) (hg : Gl X x) (hm : X.mg x = none) (hb : bootBuiltins x = some (.builtin id)) (ha : DA C X (e :: es) t n) (hn : x ≠ "__name__" := by decide) (hdb : (x == ("__debug__" : Str)) = false := by decide)
    (he : starEach (e :: es) X.env = (false, eval e X.env) :: starEach es X.env := by rfl) (hpl : (backTo pos (starEach es X.env)).any (·.1) = false := by rfl) : DE C X (.Call (.Name x p) (e :: es) [] pos) (tCB r t) (mFn f n) :=
  ⟨pe_callB hc hg hm hb ha.pa hn hdb he hpl, snd_fn hv ha.sd⟩
theorem de_callTy {T : String} {r : List V → Hp → VK → Prop} {f : FN} (hc : CallR X (.type T) r) (hv : VC C r f) (hg : Gl X x) (hm : X.mg x = none) (hb : bootBuiltins x = some (.type T)) (ha : DA C X (e :: es) t n) (hn : x ≠ "__name__" := by decide) (hdb : (x == ("__debug__" : Str)) = false := by decide)
    (he : starEach (e :: es) X.env = (false, eval e X.env) :: starEach es X.env := by rfl) (hpl : (backTo pos (starEach es X.env)).any (·.1) = false := by rfl) : DE C X (.Call (.Name x p) (e :: es) [] pos) (tCB r t) (mFn f n) :=
  ⟨pe_callTy hc hg hm hb ha.pa hn hdb he hpl, snd_fn hv ha.sd⟩
theorem ress1 {vs : List V} {r : D × Fl} (h : Ress C O0 O H H' vs [r]) : ∃ v, vs = [v] ∧ Res C O0 O H H' v r := by
  cases h with | cons h1 h2 => cases h2; exact ⟨_, rfl, h1⟩
theorem ress2 {vs : List V} {r r' : D × Fl} (h : Ress C O0 O H H' vs [r, r']) : ∃ v v', vs = [v, v'] ∧ Res C O0 O H H' v r ∧ Res C O0 O H H' v' r' := by
  cases h with
  | cons h1 h2 =>
    obtain ⟨v', rfl, h3⟩ := ress1 h2
    exact ⟨_, _, rfl, h1, h3⟩

def fLen : FN := fun rs => match rs with
  | [(.lst ds, _)] => some (.int ds.length, .pure)
  | [(.tup ds, _)] => some (.int ds.length, .pure)
  | [(.frz ns, _)] => some (.int ns.length, .pure)
  | _ => none
theorem vc_len (hC : C.K = K) : VC C (fun xs H Q => ∃ p ys, xs = [.ref p] ∧ (SqL K H p ys ∨ SqT K H p ys) ∧ Q (.int ys.length) H) fLen := by
  intro O0 O H H' vs rs rz c c' e r1 hf Q q
  unfold fLen at hf
  split at hf
  · cases hf
    obtain ⟨v, rfl, h⟩ := ress1 r1
    obtain ⟨p, xs, rfl, h1, h2⟩ := h.lstE
    exact ⟨p, xs, rfl, .inl (.inl (.inl h1)), by rw [h2.length]; exact q _ _ (Evl.Ex.refl _) .int⟩
  · cases hf
    obtain ⟨v, rfl, h⟩ := ress1 r1
    obtain ⟨p, xs, rfl, h1, h2⟩ := h.tupE
    exact ⟨p, xs, rfl, .inr (.inl (.inl h1)), by rw [h2.length]; exact q _ _ (Evl.Ex.refl _) .int⟩
  · cases hf
    obtain ⟨v, rfl, h⟩ := ress1 r1
    cases h with
    | pure w =>
      cases w with
      | @frz p _ h1 => exact ⟨p, _, rfl, .inl (by have h2 := (h1.mono hid_ex).sq; rw [hC] at h2; exact h2), by rw [List.length_map]; exact q _ _ (Evl.Ex.refl _) .int⟩
  · cases hf
theorem de_len (hK : X.K = K) (hC : C.K = K) (hg : Gl X "len") (hm : X.mg "len" = none) (ha : DA C X [e] t n) (hs : starEach [e] X.env = (false, eval e X.env) :: starEach [] X.env := by rfl) (hpl : (backTo pos (starEach [] X.env)).any (·.1) = false := by rfl) :
    DE C X (.Call (.Name "len" p) [e] [] pos) (tCB (fun xs H Q => ∃ p ys, xs = [.ref p] ∧ (SqL K H p ys ∨ SqT K H p ys) ∧ Q (.int ys.length) H) t) (mFn fLen n) := by
  subst hK; exact de_callB call_len_seq (vc_len hC) hg hm boot_len ha (by decide) (by decide) hs hpl
def fList : FN := fun rs => match rs with
  | [(.lst ds, _)] => some (.lst ds, .fresh)
  | [(.tup ds, _)] => some (.lst ds, .fresh)
  | [(.frz ns, _)] => some (.lst (ns.map .int), .fresh)
  | _ => none
theorem vc_list (hC : C.K = K) : VC C (fun xs H Q => ∃ p ys, xs = [.ref p] ∧ (SqL K H p ys ∨ SqT K H p ys) ∧ ∀ l, H l = none → Q (.ref l) (upd H l (.lst ys))) fList := by
  intro O0 O H H' vs rs rz c c' e r1 hf Q q
  unfold fList at hf
  split at hf
  · cases hf
    obtain ⟨v, rfl, h⟩ := ress1 r1
    obtain ⟨p, xs, rfl, h1, h2⟩ := h.lstE
    exact ⟨p, xs, rfl, .inl (.inl (.inl h1)), fun l hl => q _ _ (Evl.Ex.new hl) (res_lst e hl h2)⟩
  · cases hf
    obtain ⟨v, rfl, h⟩ := ress1 r1
    obtain ⟨p, xs, rfl, h1, h2⟩ := h.tupE
    exact ⟨p, xs, rfl, .inr (.inl (.inl h1)), fun l hl => q _ _ (Evl.Ex.new hl) (res_lst e hl h2)⟩
  · cases hf
    obtain ⟨v, rfl, h⟩ := ress1 r1
    cases h with
    | pure w =>
      cases w with
      | @frz p _ h1 => exact ⟨p, _, rfl, .inl (by have h2 := (h1.mono hid_ex).sq; rw [hC] at h2; exact h2), fun l hl => q _ _ (Evl.Ex.new hl) (res_lst e hl (reps_ints _))⟩
  · cases hf
theorem de_list (hK : X.K = K) (hC : C.K = K) (hg : Gl X "list") (hm : X.mg "list" = none) (ha : DA C X [e] t n) (hs : starEach [e] X.env = (false, eval e X.env) :: starEach [] X.env := by rfl) (hpl : (backTo pos (starEach [] X.env)).any (·.1) = false := by rfl) :
    DE C X (.Call (.Name "list" p) [e] [] pos) (tCB (fun xs H Q => ∃ p ys, xs = [.ref p] ∧ (SqL K H p ys ∨ SqT K H p ys) ∧ ∀ l, H l = none → Q (.ref l) (upd H l (.lst ys))) t) (mFn fList n) := by
  subst hK; exact de_callTy call_list_of (vc_list hC) hg hm (by decide +kernel) ha (by decide) (by decide) hs hpl
def fTuple : FN := fun rs => match rs with
  | [(.lst ds, _)] => some (.tup ds, .pure)
  | [(.tup ds, _)] => some (.tup ds, .pure)
  | _ => none
theorem vc_tuple : VC C (fun xs H Q => ∃ p ys, xs = [.ref p] ∧ ((SqL K H p ys ∧ ∀ l, H l = none → Q (.ref l) (upd H l (.tup ys))) ∨ (SqT K H p ys ∧ Q (.ref p) H))) fTuple := by
  intro O0 O H H' vs rs rz c c' e r1 hf Q q
  unfold fTuple at hf
  split at hf
  · cases hf
    obtain ⟨v, rfl, h⟩ := ress1 r1
    obtain ⟨p, xs, rfl, h1, h2⟩ := h.lstE
    exact ⟨p, xs, rfl, .inl ⟨.inl (.inl h1), fun l hl => q _ _ (Evl.Ex.new hl) (res_tup c' hl h2)⟩⟩
  · cases hf
    obtain ⟨v, rfl, h⟩ := ress1 r1
    obtain ⟨p, xs, rfl, h1, h2⟩ := h.tupE
    refine ⟨p, xs, rfl, .inr ⟨.inl (.inl h1), q _ _ (Evl.Ex.refl _) ?_⟩⟩
    cases h with | pure w => exact .pure w
  · cases hf
theorem de_tuple (hK : X.K = K) (hg : Gl X "tuple") (hm : X.mg "tuple" = none) (ha : DA C X [e] t n) (hs : starEach [e] X.env = (false, eval e X.env) :: starEach [] X.env := by rfl) (hpl : (backTo pos (starEach [] X.env)).any (·.1) = false := by rfl) :
    DE C X (.Call (.Name "tuple" p) [e] [] pos) (tCB (fun xs H Q => ∃ p ys, xs = [.ref p] ∧ ((SqL K H p ys ∧ ∀ l, H l = none → Q (.ref l) (upd H l (.tup ys))) ∨ (SqT K H p ys ∧ Q (.ref p) H))) t) (mFn fTuple n) := by
  subst hK; exact de_callTy call_tuple_of vc_tuple hg hm (by decide +kernel) ha (by decide) (by decide) hs hpl
def fMax2 : FN := fun rs => match rs with
  | [(.int i, _), (.int j, _)] => some (.int (if j > i then j else i), .pure)
  | _ => none
def fMin2 : FN := fun rs => match rs with
  | [(.int i, _), (.int j, _)] => some (.int (if j < i then j else i), .pure)
  | _ => none
theorem vc_max2 : VC C (fun xs H Q => ∃ i j, xs = [.int i, .int j] ∧ Q (.int (if j > i then j else i)) H) fMax2 := by
  intro O0 O H H' vs rs rz c c' e r1 hf Q q
  unfold fMax2 at hf
  split at hf
  · cases hf
    obtain ⟨v, v', rfl, h, h'⟩ := ress2 r1
    exact ⟨_, _, by rw [h.intE, h'.intE], q _ _ (Evl.Ex.refl _) .int⟩
  · cases hf
theorem vc_min2 : VC C (fun xs H Q => ∃ i j, xs = [.int i, .int j] ∧ Q (.int (if j < i then j else i)) H) fMin2 := by
  intro O0 O H H' vs rs rz c c' e r1 hf Q q
  unfold fMin2 at hf
  split at hf
  · cases hf
    obtain ⟨v, v', rfl, h, h'⟩ := ress2 r1
    exact ⟨_, _, by rw [h.intE, h'.intE], q _ _ (Evl.Ex.refl _) .int⟩
  · cases hf
theorem de_max2 (hc : X.calm = true) (hg : Gl X "max") (hm : X.mg "max" = none) (ha : DA C X [a, b] t n) (he : starEach [a, b] X.env = (false, eval a X.env) :: starEach [b] X.env := by rfl) (hpl : (backTo pos (starEach [b] X.env)).any (·.1) = false := by rfl) :
    DE C X (.Call (.Name "max" p) [a, b] [] pos) (tCB (fun xs H Q => ∃ i j, xs = [.int i, .int j] ∧ Q (.int (if j > i then j else i)) H) t) (mFn fMax2 n) := de_callB (call_max2 hc) vc_max2 hg hm (by decide +kernel) ha (by decide) (by decide) he hpl
theorem de_min2 (hc : X.calm = true) (hg : Gl X "min") (hm : X.mg "min" = none) (ha : DA C X [a, b] t n) (he : starEach [a, b] X.env = (false, eval a X.env) :: starEach [b] X.env := by rfl) (hpl : (backTo pos (starEach [b] X.env)).any (·.1) = false := by rfl) :
    DE C X (.Call (.Name "min" p) [a, b] [] pos) (tCB (fun xs H Q => ∃ i j, xs = [.int i, .int j] ∧ Q (.int (if j < i then j else i)) H) t) (mFn fMin2 n) := de_callB (call_min2 hc) vc_min2 hg hm (by decide +kernel) ha (by decide) (by decide) he hpl
/-! all, any of a list of bools -/
def fAll : FN := fun rs => match rs with
  | [(.lst ds, _)] => (getBls ds).map fun bs => (.bl (bs.all id), .pure)
  | _ => none
def fAny : FN := fun rs => match rs with
  | [(.lst ds, _)] => (getBls ds).map fun bs => (.bl (bs.any id), .pure)
  | _ => none
theorem vc_all : VC C (rAll K) fAll := by
  intro O0 O H H' vs rs rz c c' e r1 hf Q q
  unfold fAll at hf
  split at hf
  · rename_i ds _
    cases eb : getBls ds with
    | none => rw [eb] at hf; cases hf
    | some bs =>
      rw [eb] at hf; cases hf
      obtain ⟨v, rfl, h⟩ := ress1 r1
      obtain ⟨p, xs, rfl, h1, h2⟩ := h.lstE
      have := bls_of eb h2; subst this
      exact ⟨p, bs, rfl, .inl (.inl h1), q _ _ (Evl.Ex.refl _) .bl⟩
  · cases hf
theorem vc_any : VC C (rAny K) fAny := by
  intro O0 O H H' vs rs rz c c' e r1 hf Q q
  unfold fAny at hf
  split at hf
  · rename_i ds _
    cases eb : getBls ds with
    | none => rw [eb] at hf; cases hf
    | some bs =>
      rw [eb] at hf; cases hf
      obtain ⟨v, rfl, h⟩ := ress1 r1
      obtain ⟨p, xs, rfl, h1, h2⟩ := h.lstE
      have := bls_of eb h2; subst this
      exact ⟨p, bs, rfl, .inl (.inl h1), q _ _ (Evl.Ex.refl _) .bl⟩
  · cases hf
theorem de_all (hK : X.K = K) (hc : X.calm = true) (hg : Gl X "all") (hm : X.mg "all" = none) (ha : DA C X [e] t n) (hs : starEach [e] X.env = (false, eval e X.env) :: starEach [] X.env := by rfl) (hpl : (backTo pos (starEach [] X.env)).any (·.1) = false := by rfl) :
    DE C X (.Call (.Name "all" p) [e] [] pos) (tCB (rAll K) t) (mFn fAll n) := by subst hK; exact de_callB (cr_all hc) vc_all hg hm (by decide +kernel) ha (by decide) (by decide) hs hpl
theorem de_any (hK : X.K = K) (hc : X.calm = true) (hg : Gl X "any") (hm : X.mg "any" = none) (ha : DA C X [e] t n) (hs : starEach [e] X.env = (false, eval e X.env) :: starEach [] X.env := by rfl) (hpl : (backTo pos (starEach [] X.env)).any (·.1) = false := by rfl) :
    DE C X (.Call (.Name "any" p) [e] [] pos) (tCB (rAny K) t) (mFn fAny n) := by subst hK; exact de_callB (cr_any hc) vc_any hg hm (by decide +kernel) ha (by decide) (by decide) hs hpl
/-! sorted, max, min of a list of ints -/
def fSortL : FN := fun rs => match rs with
  | [(.lst ds, _)] => (getInts ds).map fun ns => (.lst ((isort ns).map .int), .fresh)
  | _ => none
theorem vc_sortL : VC C (rSortedI K) fSortL := by
  intro O0 O H H' vs rs rz c c' e r1 hf Q q
  unfold fSortL at hf
  split at hf
  · rename_i ds _
    cases eb : getInts ds with
    | none => rw [eb] at hf; cases hf
    | some ns =>
      rw [eb] at hf; cases hf
      obtain ⟨v, rfl, h⟩ := ress1 r1
      obtain ⟨p, xs, rfl, h1, h2⟩ := h.lstE
      have := ints_of eb h2; subst this
      refine ⟨p, ns, rfl, .inl (.inl h1), fun ns' l hp hs hl => ?_⟩
      rw [isort_eq hp hs]
      exact q _ _ (Evl.Ex.new hl) (res_lst e hl (reps_ints _))
  · cases hf
def fMaxL : FN := fun rs => match rs with
  | [(.lst ds, _)] => (getInts ds).bind fun ns => if ns = [] then none else some (.int (maxL ns), .pure)
  | _ => none
def fMinL : FN := fun rs => match rs with
  | [(.lst ds, _)] => (getInts ds).bind fun ns => if ns = [] then none else some (.int (minL ns), .pure)
  | _ => none
theorem vc_maxL : VC C (rMax K) fMaxL := by
  intro O0 O H H' vs rs rz c c' e r1 hf Q q
  unfold fMaxL at hf
  split at hf
  · rename_i ds _
    cases eb : getInts ds with
    | none => rw [eb] at hf; cases hf
    | some ns =>
      rw [eb] at hf
      replace hf : (if ns = [] then none else some ((.int (maxL ns), .pure) : D × Fl)) = some rz := hf
      split at hf
      · cases hf
      · rename_i hne
        cases hf
        obtain ⟨v, rfl, h⟩ := ress1 r1
        obtain ⟨p, xs, rfl, h1, h2⟩ := h.lstE
        have := ints_of eb h2; subst this
        refine ⟨p, ns, rfl, .inl (.inl h1), List.length_pos_iff.mpr hne, fun m hm hall => ?_⟩
        obtain ⟨g1, g2⟩ := maxL_spec hne
        have : m = maxL ns := Int.le_antisymm (g2 m hm) (hall _ g1)
        subst this
        exact q _ _ (Evl.Ex.refl _) .int
  · cases hf
theorem vc_minL : VC C (rMin K) fMinL := by
  intro O0 O H H' vs rs rz c c' e r1 hf Q q
  unfold fMinL at hf
  split at hf
  · rename_i ds _
    cases eb : getInts ds with
    | none => rw [eb] at hf; cases hf
    | some ns =>
      rw [eb] at hf
      replace hf : (if ns = [] then none else some ((.int (minL ns), .pure) : D × Fl)) = some rz := hf
      split at hf
      · cases hf
      · rename_i hne
        cases hf
        obtain ⟨v, rfl, h⟩ := ress1 r1
        obtain ⟨p, xs, rfl, h1, h2⟩ := h.lstE
        have := ints_of eb h2; subst this
        refine ⟨p, ns, rfl, .inl (.inl h1), List.length_pos_iff.mpr hne, fun m hm hall => ?_⟩
        obtain ⟨g1, g2⟩ := minL_spec hne
        have : m = minL ns := Int.le_antisymm (hall _ g1) (g2 m hm)
        subst this
        exact q _ _ (Evl.Ex.refl _) .int
  · cases hf

/-! ### isinstance, fields -/
def tyName : D → Option String
  | .non => some "NoneType" | .bl _ => some "bool" | .int _ => some "int" | .str _ => some "str" | .tup _ => some "tuple" | .lst _ => some "list" | .frz _ => none | .net _ _ => none | .opq _ => none
def isT (T : String) (d : D) : Option Bool := (tyName d).bind fun s => kitB s T
def mIsT (T : String) (m : M) : M := fun ρ => (m ρ).bind fun r => (isT T r.1).map fun k => (.bl k, .pure)
theorem ty_of {d : D} {v : V} {s : String} (h : tyName d = some s) (r : Rep C H v d) : TyX K H v (.type s) := by
  cases d <;> cases h <;> cases r
  · exact .base .non
  · exact .base (.bl _)
  · exact .base (.int _)
  · exact .base (.str _)
  · rename_i h1 _; exact .base (.tup h1)
  · rename_i h1 _; exact .base (.lst h1)
theorem de_isT {T : String} {tn : Str} {p2 : Pos} (hK : X.K = K) (hg : Gl X "isinstance") (hm : X.mg "isinstance" = none) (hg2 : Gl X tn) (hm2 : X.mg tn = none) (hb2 : bootBuiltins tn = some (.type T)) (ha : DE C X a ta ma)
    (hn : tn ≠ "__name__" := by decide) (hd : (tn == ("__debug__" : Str)) = false := by decide)
    (hs : starEach [a, .Name tn p2] X.env = (false, eval a X.env) :: starEach [.Name tn p2] X.env := by rfl) (hs2 : starEach [.Name tn p2] X.env = (false, eval (.Name tn p2) X.env) :: starEach [] X.env := by rfl)
    (hpl : (backTo pos (starEach [.Name tn p2] X.env)).any (·.1) = false := by rfl) :
    DE C X (.Call (.Name "isinstance" p) [a, .Name tn p2] [] pos) (tCB (rIsi K) (tCons ta (tCons (tC (.ty T)) tNil))) (mIsT T ma) := by
  subst hK
  refine ⟨pe_callB call_isi hg hm (by decide +kernel) (pa_cons ha.pe (pa_cons (pe_bltn (v := .ty T) hg2 hm2 hb2 rfl hn hd) pa_nil hs2) hs) (by decide) (by decide) hs hpl, fun O0 O H σ ρ r s h1 Q q => ?_⟩
  unfold mIsT at h1
  cases ea : ma ρ with
  | none => rw [ea] at h1; cases h1
  | some rx =>
    rw [ea] at h1
    cases ek : isT T rx.1 with
    | none =>
      replace h1 : (isT T rx.1).map (fun k => ((.bl k, .pure) : D × Fl)) = some r := h1
      rw [ek] at h1; cases h1
    | some k =>
      replace h1 : (isT T rx.1).map (fun k => ((.bl k, .pure) : D × Fl)) = some r := h1
      rw [ek] at h1; cases h1
      unfold isT at ek
      cases en : tyName rx.1 with
      | none => rw [en] at ek; cases ek
      | some sn =>
        rw [en] at ek
        refine ha.sd _ _ _ _ _ _ s ea _ fun v H1 e1 r1 => ?_
        exact ⟨v, .ty T, .type sn, .type T, k, rfl, .ty T, ty_of en r1.full, kit_ty ek, q _ _ e1 .bl⟩
/-- what of the class Network is asked -/
structure NetC (K : PySem.W.Frag) (C : Addr) : Prop where
  cl : Cls K C
  nw : NoAttr K C "wires"
  nc : NoAttr K C "comparers"
  ha : PySem.W.findIn K (.ref C) "__class__" = some (some (.builtin "object.__class__"))
  hn : PySem.W.specialIn K (.builtin "object.__class__") "__get__" = some (some (.builtin "getset_descriptor.__get__"))
  ht : PySem.W.takesIn K (.builtin "object.__class__") = some true
  hm : PySem.W.mroIn K C (.type "object") = some true
  hk : PySem.W.kitOne K (.ref C) (.ref C) = some true
def mIsNet (m : M) : M := fun ρ => (m ρ).bind fun r => match r.1 with | .net _ _ => some (.bl true, .pure) | _ => none
theorem Res.netE {v : V} {w : Int} {c : D} {fl : Fl} (h : Res C O0 O H H' v (.net w c, fl)) : ∃ a dx x, v = .ref a ∧ H' a = some (.ins C.net dx [("wires", .int w), ("comparers", x)]) ∧ Rep C (hid H' O) x c := by
  cases h with
  | pure q => cases q with | net h1 h2 => exact ⟨_, _, _, rfl, hid_ex _ _ h1, h2⟩
theorem de_isNet {p2 : Pos} (N : NetC K C.net) (hK : X.K = K) (hg : Gl X "isinstance") (hm : X.mg "isinstance" = none) (hg2 : Gl X "Network") (hm2 : X.mg "Network" = some (.ref C.net)) (ha : DE C X a ta ma)
    (hs : starEach [a, .Name "Network" p2] X.env = (false, eval a X.env) :: starEach [.Name "Network" p2] X.env := by rfl) (hs2 : starEach [.Name "Network" p2] X.env = (false, eval (.Name "Network" p2) X.env) :: starEach [] X.env := by rfl)
    (hpl : (backTo pos (starEach [.Name "Network" p2] X.env)).any (·.1) = false := by rfl) :
    DE C X (.Call (.Name "isinstance" p) [a, .Name "Network" p2] [] pos) (tCB (rIsi K) (tCons ta (tCons (tC (.ref C.net)) tNil))) (mIsNet ma) := by
  subst hK
  refine ⟨pe_callB call_isi hg hm (by decide +kernel) (pa_cons ha.pe (pa_cons (pe_glob hg2 hm2 rfl (by decide)) pa_nil hs2) hs) (by decide) (by decide) hs hpl, fun O0 O H σ ρ r s h1 Q q => ?_⟩
  unfold mIsNet at h1
  cases ea : ma ρ with
  | none => rw [ea] at h1; cases h1
  | some rx =>
    rw [ea] at h1
    obtain ⟨d, fl⟩ := rx
    cases d with
    | net w c =>
      cases h1
      refine ha.sd _ _ _ _ _ _ s ea _ fun v H1 e1 r1 => ?_
      obtain ⟨a', dx, x, rfl, h2, _⟩ := r1.netE
      exact ⟨.ref a', .ref C.net, .ref C.net, .ref C.net, true, rfl, .own C.net, .base (.ins h2 N.cl N.ha N.hn N.ht N.hm), N.hk, q _ _ e1 .bl⟩
    | _ => cases h1
theorem look_comps {w : Int} {x : V} : List.lookup ("comparers" : Str) [(("wires" : Str), V.int w), (("comparers" : Str), x)] = some x := by
  have e : (("comparers" : Str) == ("wires" : Str)) = false := by decide +kernel
  rw [List.lookup_cons, e, List.lookup_cons, beq_self_eq_true]
def mWires (m : M) : M := fun ρ => (m ρ).bind fun r => match r.1 with | .net w _ => some (.int w, .pure) | _ => none
def mComps (m : M) : M := fun ρ => (m ρ).bind fun r => match r.1 with | .net _ c => some (c, .pure) | _ => none
theorem de_wires (N : NetC K C.net) (hK : X.K = K) (ha : DE C X a ta ma) (hb : attributeBase a "wires" X.env (eval a X.env) = eval a X.env := by rfl) : DE C X (.Attribute a "wires" pos) (tFld K ta "wires") (mWires ma) := by
  subst hK
  refine ⟨pe_fld ha.pe hb, fun O0 O H σ ρ r s h1 Q q => ?_⟩
  unfold mWires at h1
  cases ea : ma ρ with
  | none => rw [ea] at h1; cases h1
  | some rx =>
    rw [ea] at h1
    obtain ⟨d, fl⟩ := rx
    cases d with
    | net w c =>
      cases h1
      refine ha.sd _ _ _ _ _ _ s ea _ fun v H1 e1 r1 => ?_
      obtain ⟨a', dx, x, rfl, h2, _⟩ := r1.netE
      exact ⟨a', C.net, dx, _, _, rfl, h2, N.cl, N.nw, rfl, q _ _ e1 .int⟩
    | _ => cases h1
theorem de_comps (N : NetC K C.net) (hK : X.K = K) (ha : DE C X a ta ma) (hb : attributeBase a "comparers" X.env (eval a X.env) = eval a X.env := by rfl) : DE C X (.Attribute a "comparers" pos) (tFld K ta "comparers") (mComps ma) := by
  subst hK
  refine ⟨pe_fld ha.pe hb, fun O0 O H σ ρ r s h1 Q q => ?_⟩
  unfold mComps at h1
  cases ea : ma ρ with
  | none => rw [ea] at h1; cases h1
  | some rx =>
    rw [ea] at h1
    obtain ⟨d, fl⟩ := rx
    cases d with
    | net w c =>
      cases h1
      refine ha.sd _ _ _ _ _ _ s ea _ fun v H1 e1 r1 => ?_
      obtain ⟨a', dx, x, rfl, h2, h3⟩ := r1.netE
      exact ⟨a', C.net, dx, _, _, rfl, h2, N.cl, N.nc, look_comps, q _ _ e1 (.pure h3)⟩
    | _ => cases h1
end
theorem isT_int_int {i : Int} : isT "int" (.int i) = some true := by show kitB "int" "int" = some true; decide +kernel
theorem isT_int_bl {i : Bool} : isT "int" (.bl i) = some true := by show kitB "bool" "int" = some true; decide +kernel
theorem isT_bool_int {i : Int} : isT "bool" (.int i) = some false := by show kitB "int" "bool" = some false; decide +kernel
theorem isT_bool_bl {i : Bool} : isT "bool" (.bl i) = some true := by show kitB "bool" "bool" = some true; decide +kernel
theorem isT_tuple_tup {l : List D} : isT "tuple" (.tup l) = some true := by show kitB "tuple" "tuple" = some true; decide +kernel
theorem isT_list_lst {l : List D} : isT "list" (.lst l) = some true := by show kitB "list" "list" = some true; decide +kernel
theorem isT_tuple_lst {l : List D} : isT "tuple" (.lst l) = some false := by show kitB "list" "tuple" = some false; decide +kernel
theorem isT_tuple_non : isT "tuple" .non = some false := by show kitB "NoneType" "tuple" = some false; decide +kernel
theorem isT_tuple_int {i : Int} : isT "tuple" (.int i) = some false := by show kitB "int" "tuple" = some false; decide +kernel
end Dt

set_option maxRecDepth 100000
namespace Dt
open PySem PySem.Spec PyProof.Rows L2
open Evl (Ex)
section
variable {C : Cfg} {K : PySem.W.Frag} {X : Cx} {O0 O : List Addr} {H H' H1 : Hp} {σ : L2.St} {ρ : E}

/-! ### what is walked -/
/-- from H1 on (O hidden there): the iterator gives just these; w: only while nothing of H1 changes -/
def ItOk (C : Cfg) (w : Bool) (O : List Addr) (H1 : Hp) (J : It) (ds : List D) : Prop := ∀ H2 O2, (w = true → Ex H1 H2) → Ex (hid H1 O) (hid H2 O2) → (∀ a ∈ O2, H2 a ≠ none) →
  ∀ i : Nat, (∀ d, ds[i]? = some d → J.go i H2 ∧ ∀ x H3, J.yld i H2 x H3 → Ex H2 H3 ∧ Rep C (hid H3 O2) x d) ∧ (ds.length ≤ i → J.stop i H2)
abbrev I := E → Option (List D)
structure DI (C : Cfg) (w : Bool) (X : Cx) (tg e : Expr) (wi : TI) (m : I) : Prop where
  pi : PI X tg e wi
  sd : ∀ O0 O H σ ρ ds, SV C O0 O H σ ρ → m ρ = some ds → ∀ R : It → Hp → Prop, (∀ J H1, Ex H H1 → ItOk C w O H1 J ds → R J H1) → wi σ H R
theorem itl_ok {w : Bool} {a : Addr} {xs : List V} {ds : List D} (h1 : H1 a = some (.lst xs)) (hw : w = false → a ∉ O) (h2 : Reps C (hid H1 O) xs ds) : ItOk C w O H1 (Itl K a) ds := by
  intro H2 O2 hx e dm i
  have ha : H2 a = some (.lst xs) := by
    cases w with
    | true => exact hx rfl a _ h1
    | false => exact hid_ex _ _ (e a _ (by rw [hid_out (hw rfl)]; exact h1))
  refine ⟨fun d hd => ?_, fun hl => ?_⟩
  · obtain ⟨v, e1, r⟩ := h2.get hd
    refine ⟨⟨xs, v, .inl (.inl ha), e1⟩, fun x H3 y => ?_⟩
    obtain ⟨rfl, y⟩ := y
    have := y xs (.inl (.inl ha))
    rw [e1] at this; cases this
    exact ⟨Evl.Ex.refl _, r.mono e⟩
  · exact ⟨xs, .inl (.inl ha), by rw [h2.length]; exact hl⟩
theorem itt_ok {w : Bool} {a : Addr} {xs : List V} {ds : List D} (h1 : hid H1 O a = some (.tup xs)) (h2 : Reps C (hid H1 O) xs ds) : ItOk C w O H1 (Itt K a) ds := by
  intro H2 O2 hx e dm i
  have ha : H2 a = some (.tup xs) := hid_ex _ _ (e a _ h1)
  refine ⟨fun d hd => ?_, fun hl => ?_⟩
  · obtain ⟨v, e1, r⟩ := h2.get hd
    refine ⟨⟨xs, v, .inl (.inl ha), e1⟩, fun x H3 y => ?_⟩
    obtain ⟨rfl, y⟩ := y
    have := y xs (.inl (.inl ha))
    rw [e1] at this; cases this
    exact ⟨Evl.Ex.refl _, r.mono e⟩
  · exact ⟨xs, .inl (.inl ha), by rw [h2.length]; exact hl⟩
theorem Res.tupH {v : V} {ds : List D} {fl : Fl} (h : Res C O0 O H H' v (.tup ds, fl)) : ∃ a xs, v = .ref a ∧ hid H' O a = some (.tup xs) ∧ Reps C (hid H' O) xs ds := by
  cases h with
  | pure q => cases q with | tup h1 h2 => exact ⟨_, _, rfl, h1, h2⟩
/-- a list or a tuple -/
def iSeq (K : PySem.W.Frag) (tl : TE) : TI := fun σ H R => tl σ H fun x H1 => ∃ a, x = .ref a ∧ (((∃ xs, SqL K H1 a xs) ∧ R (Itl K a) H1) ∨ ((∃ xs, SqT K H1 a xs) ∧ R (Itt K a) H1))
theorem pi_seq {tg l : Expr} {tl : TE} (hl : PE X l tl) : PI X tg l (iSeq X.K tl) := by
  refine ⟨fun pins s σ H R I h => ?_⟩
  refine thn (hl.run pins s σ H _ I h) fun v s1 ⟨x, H1, I1, r1, q1⟩ => ?_
  obtain ⟨a, e, q⟩ := q1
  subst e
  cases r1
  rcases q with ⟨⟨xs, hq⟩, q⟩ | ⟨⟨xs, hq⟩, q⟩
  · obtain ⟨its, rv, p, hz⟩ := I1.list hq
    refine wpAny_pyIter_list p.isList ?_
    refine ⟨s1.heap.objs.size, [s1.heap.objs.size], _, _, H1, rfl, I1.kept (t' := s1.toks) fun b o e => Heap.get?_push_of_some _ e, turn_list a _, ⟨_, Heap.get?_push_size _ rfl, rfl, rfl⟩, fun b hb => ?_, q⟩
    have e : b = s1.heap.objs.size := by simpa using hb
    subst e
    exact I1.fpOk (Nat.le_refl _) (I1.hok.fresh (Nat.le_refl _))
  · obtain ⟨its, rv, p, hz⟩ := I1.tuple hq
    refine wpAny_pyIter_tuple (show s1.heap.IsTuple a its.toArray from p) ?_
    refine ⟨s1.heap.objs.size, [s1.heap.objs.size], _, _, H1, rfl, I1.kept (t' := s1.toks) fun b o e => Heap.get?_push_of_some _ e, turn_tuple a _, ⟨_, Heap.get?_push_size _ rfl, rfl, rfl⟩, fun b hb => ?_, q⟩
    have e : b = s1.heap.objs.size := by simpa using hb
    subst e
    exact I1.fpOk (Nat.le_refl _) (I1.hok.fresh (Nat.le_refl _))
def iS (w : Bool) (m : M) : I := fun ρ => (m ρ).bind fun r => match r.1 with
  | .lst ds => if w || decide (r.2 ≠ .bor) then some ds else none
  | .tup ds => some ds
  | _ => none
theorem di_seq {w : Bool} {tg l : Expr} {tl : TE} {ml : M} (hK : X.K = K) (hl : DE C X l tl ml) : DI C w X tg l (iSeq K tl) (iS w ml) := by
  subst hK
  refine ⟨pi_seq hl.pe, fun O0 O H σ ρ ds s h R q => ?_⟩
  unfold iS at h
  cases el : ml ρ with
  | none => rw [el] at h; cases h
  | some rx =>
    rw [el] at h
    obtain ⟨d, fl⟩ := rx
    refine hl.sd _ _ _ _ _ _ s el _ fun v H1 e r => ?_
    cases d with
    | lst ds' =>
      replace h : (if w || decide (fl ≠ .bor) then some ds' else none) = some ds := h
      split at h
      · rename_i hk
        cases h
        obtain ⟨a, xs, rfl, h1, h2⟩ := r.lstE
        refine ⟨a, rfl, .inl ⟨⟨xs, .inl (.inl h1)⟩, q _ _ e (itl_ok h1 (fun hw => ?_) h2)⟩⟩
        subst hw
        simp only [Bool.false_or, decide_eq_true_eq] at hk
        cases r with
        | pure w => cases w with
          | lst g _ => intro z; unfold hid at g; rw [if_pos z] at g; cases g
        | fresh g _ _ => exact fun z => s.dom _ z g
        | bor _ _ _ _ => exact absurd rfl hk
      · cases h
    | tup ds' =>
      cases h
      obtain ⟨a, xs, rfl, h1, h2⟩ := r.tupH
      exact ⟨a, rfl, .inr ⟨⟨xs, .inl (.inl (hid_ex _ _ h1))⟩, q _ _ e (itt_ok h1 h2)⟩⟩
    | _ => cases h
/-! ranges -/
def rngD (lo : Int) (n : Nat) : List D := (List.range n).map fun k : Nat => D.int (lo + (k : Int))
theorem itr_ok {w : Bool} {lo : Int} {n : Nat} : ItOk C w O H1 (Itr lo n) (rngD lo n) := by
  intro H2 O2 hx e dm i
  unfold rngD
  refine ⟨fun d hd => ?_, fun hl => ?_⟩
  · rw [List.getElem?_map] at hd
    cases hr : (List.range n)[i]? with
    | none => rw [hr] at hd; cases hd
    | some k =>
      rw [hr] at hd
      obtain ⟨hlt, ek⟩ := List.getElem?_eq_some_iff.mp hr
      simp only [List.getElem_range] at ek
      subst ek
      cases hd
      simp only [List.length_range] at hlt
      refine ⟨hlt, fun x H3 y => ?_⟩
      obtain ⟨rfl, rfl⟩ := y
      exact ⟨Evl.Ex.refl _, .int _⟩
  · rw [List.length_map, List.length_range] at hl
    exact hl
theorem itc_ok {w : Bool} {lo c : Int} {n : Nat} : ItOk C w O H1 (Itc lo c n) ((List.range n).map fun k : Nat => D.int (lo + k * c)) := by
  intro H2 O2 hx e dm i
  refine ⟨fun d hd => ?_, fun hl => ?_⟩
  · rw [List.getElem?_map] at hd
    cases hr : (List.range n)[i]? with
    | none => rw [hr] at hd; cases hd
    | some k =>
      rw [hr] at hd
      obtain ⟨hlt, ek⟩ := List.getElem?_eq_some_iff.mp hr
      simp only [List.getElem_range] at ek
      subst ek
      cases hd
      simp only [List.length_range] at hlt
      refine ⟨hlt, fun x H3 y => ?_⟩
      obtain ⟨rfl, rfl⟩ := y
      exact ⟨Evl.Ex.refl _, .int _⟩
  · rw [List.length_map, List.length_range] at hl
    exact hl
def iR1f : List (D × Fl) → Option (List D) := fun rs => match rs with
  | [(.int j, _)] => if -(2 ^ 62) ≤ j ∧ j < 2 ^ 62 then some (rngD 0 j.toNat) else none
  | _ => none
def iR1 (n : As) : I := fun ρ => (n ρ).bind iR1f
def iR2f : List (D × Fl) → Option (List D) := fun rs => match rs with
  | [(.int i, _), (.int j, _)] => if -(2 ^ 62) ≤ i ∧ i < 2 ^ 62 ∧ -(2 ^ 62) ≤ j ∧ j < 2 ^ 62 then some (rngD i (j - i).toNat) else none
  | _ => none
def iR2 (n : As) : I := fun ρ => (n ρ).bind iR2f
/-- down by ones -/
def iR3f : List (D × Fl) → Option (List D) := fun rs => match rs with
  | [(.int i, _), (.int j, _), (.int c, _)] => if c = -1 ∧ -(2 ^ 62) ≤ i ∧ i < 2 ^ 62 ∧ -(2 ^ 62) ≤ j ∧ j < 2 ^ 62 then some ((List.range (i - j).toNat).map fun k : Nat => D.int (i + k * (-1))) else none
  | _ => none
def iR3 (n : As) : I := fun ρ => (n ρ).bind iR3f
theorem di_r1 {w : Bool} {tg a : Expr} {ta : TA} {n : As} {p pos : Pos} (hg : Gl X "range") (hm : X.mg "range" = none) (ha : DA C X [a] ta n) (hs : starEach [a] X.env = [(false, eval a X.env)] := by rfl) : DI C w X tg (.Call (.Name "range" p) [a] [] pos) (iRng1 ta) (iR1 n) := by
  refine ⟨pi_range1 hg hm ha.pa hs, fun O0 O H σ ρ ds s h R q => ?_⟩
  unfold iR1 at h
  cases en : n ρ with
  | none => rw [en] at h; cases h
  | some rs =>
    rw [en] at h
    replace h : iR1f rs = some ds := h
    unfold iR1f at h
    split at h
    · split at h
      · rename_i hk
        cases h
        refine ha.sd _ _ _ _ _ _ s en _ fun vs H1 e r => ?_
        obtain ⟨v, rfl, r1⟩ := ress1 r
        cases r1.intE
        exact ⟨_, rfl, hk.1, hk.2, q _ _ e itr_ok⟩
      · cases h
    · cases h
theorem di_r2 {w : Bool} {tg a b : Expr} {ta : TA} {n : As} {p pos : Pos} (hg : Gl X "range") (hm : X.mg "range" = none) (ha : DA C X [a, b] ta n) (hs : starEach [a, b] X.env = [(false, eval a X.env), (false, eval b X.env)] := by rfl) (hs2 : starEach [b] X.env = [(false, eval b X.env)] := by rfl) :
    DI C w X tg (.Call (.Name "range" p) [a, b] [] pos) (iRng2 ta) (iR2 n) := by
  refine ⟨pi_range2 hg hm ha.pa hs hs2, fun O0 O H σ ρ ds s h R q => ?_⟩
  unfold iR2 at h
  cases en : n ρ with
  | none => rw [en] at h; cases h
  | some rs =>
    rw [en] at h
    replace h : iR2f rs = some ds := h
    unfold iR2f at h
    split at h
    · split at h
      · rename_i hk
        cases h
        refine ha.sd _ _ _ _ _ _ s en _ fun vs H1 e r => ?_
        obtain ⟨v, v', rfl, r1, r2⟩ := ress2 r
        cases r1.intE; cases r2.intE
        exact ⟨_, _, rfl, hk, q _ _ e itr_ok⟩
      · cases h
    · cases h
theorem di_r3 {w : Bool} {tg a b c : Expr} {ta : TA} {n : As} {p pos : Pos} (hg : Gl X "range") (hm : X.mg "range" = none) (ha : DA C X [a, b, c] ta n) (hs : starEach [a, b, c] X.env = (false, eval a X.env) :: starEach [b, c] X.env := by rfl) (hpl : (backTo pos (starEach [b, c] X.env)).any (·.1) = false := by rfl) :
    DI C w X tg (.Call (.Name "range" p) [a, b, c] [] pos) (iRng3 ta) (iR3 n) := by
  refine ⟨pi_range3 hg hm ha.pa hs hpl, fun O0 O H σ ρ ds s h R q => ?_⟩
  unfold iR3 at h
  cases en : n ρ with
  | none => rw [en] at h; cases h
  | some rs =>
    rw [en] at h
    replace h : iR3f rs = some ds := h
    unfold iR3f at h
    split at h
    · split at h
      · rename_i i _ j _ c _ hk
        obtain ⟨hc, h1, h2, h3, h4⟩ := hk
        subst hc
        cases h
        refine ha.sd _ _ _ _ _ _ s en _ fun vs H1 e r => ?_
        cases r with
        | cons r1 r =>
          obtain ⟨v, v', rfl, r2, r3⟩ := ress2 r
          cases r1.intE; cases r2.intE; cases r3.intE
          exact ⟨_, _, _, _, rfl, RgC.neg h1 h2 h3 h4, q _ _ e itc_ok⟩
      · cases h
    · cases h
/-! zip of two lists, of two tuples -/
def zipD : List D → List D → List D
  | a :: r, b :: s => .tup [a, b] :: zipD r s
  | _, _ => []
theorem zipD_get : ∀ {ds es : List D} {i : Nat} {d : D}, (zipD ds es)[i]? = some d → ∃ x y, ds[i]? = some x ∧ es[i]? = some y ∧ d = .tup [x, y]
  | [], _, i, d, h => by simp [zipD] at h
  | _ :: _, [], i, d, h => by simp [zipD] at h
  | a :: r, b :: s, 0, d, h => by simp [zipD] at h; exact ⟨a, b, rfl, rfl, h.symm⟩
  | a :: r, b :: s, i + 1, d, h => by simpa using zipD_get (i := i) (by simpa [zipD] using h)
theorem zipD_len : ∀ {ds es : List D}, (zipD ds es).length = min ds.length es.length
  | [], _ => by simp [zipD]
  | _ :: _, [] => by simp [zipD]
  | a :: r, b :: s => by simp only [zipD, List.length_cons, zipD_len (ds := r) (es := s)]; omega
theorem pair_new {H2 : Hp} {O2 : List Addr} {T : Addr} {x y : V} {d1 d2 : D} (dm : ∀ a ∈ O2, H2 a ≠ none) (hT : H2 T = none) (r1 : Rep C (hid H2 O2) x d1) (r2 : Rep C (hid H2 O2) y d2) : Rep C (hid (upd H2 T (.tup [x, y])) O2) (.ref T) (.tup [d1, d2]) := by
  refine .tup (by rw [hid_out fun z => dm _ z hT, upd_same]) ?_
  exact .cons (r1.mono (hid_mono (Evl.Ex.new hT))) (.cons (r2.mono (hid_mono (Evl.Ex.new hT))) .nil)
theorem itz_ok {a b : Addr} {xs ys : List V} {ds es : List D} (h1 : H1 a = some (.lst xs)) (h2 : Reps C (hid H1 O) xs ds) (k1 : H1 b = some (.lst ys)) (k2 : Reps C (hid H1 O) ys es) : ItOk C true O H1 (Itz K a b) (zipD ds es) := by
  intro H2 O2 hx e dm i
  have ha : H2 a = some (.lst xs) := hx rfl a _ h1
  have hb : H2 b = some (.lst ys) := hx rfl b _ k1
  refine ⟨fun d hd => ?_, fun hl => ?_⟩
  · obtain ⟨x, y, g1, g2, rfl⟩ := zipD_get hd
    obtain ⟨v, e1, r⟩ := h2.get g1
    obtain ⟨u, e2, r'⟩ := k2.get g2
    refine ⟨⟨xs, ys, v, u, .inl (.inl ha), .inl (.inl hb), e1, e2⟩, fun z H3 yl => ?_⟩
    obtain ⟨T, x', y', rfl, hT, rfl, q1, q2⟩ := yl
    have z1 := q1 xs (.inl (.inl ha))
    rw [e1] at z1; cases z1
    have z2 := q2 ys (.inl (.inl hb))
    rw [e2] at z2; cases z2
    exact ⟨Evl.Ex.new hT, pair_new dm hT (r.mono e) (r'.mono e)⟩
  · rw [zipD_len] at hl
    exact ⟨xs, ys, .inl (.inl ha), .inl (.inl hb), by rw [h2.length, k2.length]; omega⟩
theorem itzT_ok {a b : Addr} {xs ys : List V} {ds es : List D} (h1 : hid H1 O a = some (.tup xs)) (h2 : Reps C (hid H1 O) xs ds) (k1 : hid H1 O b = some (.tup ys)) (k2 : Reps C (hid H1 O) ys es) {w : Bool} : ItOk C w O H1 (RZ.ItzT K a b) (zipD ds es) := by
  intro H2 O2 hx e dm i
  have ha : H2 a = some (.tup xs) := hid_ex _ _ (e a _ h1)
  have hb : H2 b = some (.tup ys) := hid_ex _ _ (e b _ k1)
  refine ⟨fun d hd => ?_, fun hl => ?_⟩
  · obtain ⟨x, y, g1, g2, rfl⟩ := zipD_get hd
    obtain ⟨v, e1, r⟩ := h2.get g1
    obtain ⟨u, e2, r'⟩ := k2.get g2
    refine ⟨⟨xs, ys, v, u, .inl (.inl ha), .inl (.inl hb), e1, e2⟩, fun z H3 yl => ?_⟩
    obtain ⟨T, x', y', rfl, hT, rfl, q1, q2⟩ := yl
    have z1 := q1 xs (.inl (.inl ha))
    rw [e1] at z1; cases z1
    have z2 := q2 ys (.inl (.inl hb))
    rw [e2] at z2; cases z2
    exact ⟨Evl.Ex.new hT, pair_new dm hT (r.mono e) (r'.mono e)⟩
  · rw [zipD_len] at hl
    exact ⟨xs, ys, .inl (.inl ha), .inl (.inl hb), by rw [h2.length, k2.length]; omega⟩
def iZf : List (D × Fl) → Option (List D) := fun rs => match rs with
  | [(.lst ds, _), (.lst es, _)] => some (zipD ds es)
  | [(.tup ds, _), (.tup es, _)] => some (zipD ds es)
  | _ => none
def iZ (n : As) : I := fun ρ => (n ρ).bind iZf
theorem di_zip {a b : Expr} {ta : TA} {n : As} {p pos tpos : Pos} {elts : List Expr} {kk : Nat} (hK : X.K = K) (hg : Gl X "zip") (hm : X.mg "zip" = none) (ha : DA C X [a, b] ta n)
    (hs : starEach [a, b] X.env = (false, eval a X.env) :: starEach [b] X.env := by rfl) (hpl : (backTo pos (starEach [b] X.env)).any (·.1) = false := by rfl) :
    DI C true X (.Tuple elts kk tpos) (.Call (.Name "zip" p) [a, b] [] pos) (RZ.iZipA K ta) (iZ n) := by
  subst hK
  refine ⟨RZ.pi_zipA hg hm ha.pa hs hpl, fun O0 O H σ ρ ds s h R q => ?_⟩
  unfold iZ at h
  cases en : n ρ with
  | none => rw [en] at h; cases h
  | some rs =>
    rw [en] at h
    replace h : iZf rs = some ds := h
    unfold iZf at h
    split at h
    · cases h
      refine ha.sd _ _ _ _ _ _ s en _ fun vs H1 e r => ?_
      obtain ⟨v, v', rfl, r1, r2⟩ := ress2 r
      obtain ⟨p1, xs, rfl, g1, g2⟩ := r1.lstE
      obtain ⟨p2, ys, rfl, k1, k2⟩ := r2.lstE
      exact ⟨p1, p2, xs, ys, rfl, .inl ⟨.inl (.inl g1), .inl (.inl k1), q _ _ e (itz_ok g1 g2 k1 k2)⟩⟩
    · cases h
      refine ha.sd _ _ _ _ _ _ s en _ fun vs H1 e r => ?_
      obtain ⟨v, v', rfl, r1, r2⟩ := ress2 r
      obtain ⟨p1, xs, rfl, g1, g2⟩ := r1.tupH
      obtain ⟨p2, ys, rfl, k1, k2⟩ := r2.tupH
      exact ⟨p1, p2, xs, ys, rfl, .inr ⟨.inl (.inl (hid_ex _ _ g1)), .inl (.inl (hid_ex _ _ k1)), q _ _ e (itzT_ok g1 g2 k1 k2)⟩⟩
    · cases h

/-! ### targets that are names -/
def wipeE (ρ : E) : List Nat → E
  | [] => ρ
  | v :: vs => (wipeE ρ vs).set v none
theorem wipe_get {σ : L2.St} {i : Nat} : ∀ {vs : List Nat}, (wipe σ vs)[i]? = if i ∈ vs ∧ i < σ.length then some none else σ[i]?
  | [] => by simp [wipe]
  | v :: vs => by
    unfold wipe
    have hl := wipe_length σ vs
    by_cases hv : v = i
    · subst hv
      by_cases hlt : v < σ.length
      · rw [List.getElem?_set_self (by rw [hl]; exact hlt), if_pos ⟨List.mem_cons_self, hlt⟩]
      · rw [if_neg (by intro z; exact hlt z.2), List.getElem?_eq_none (by rw [List.length_set, hl]; omega), List.getElem?_eq_none (by omega)]
    · rw [List.getElem?_set_ne hv, wipe_get]
      simp only [List.mem_cons, show (i = v) = False by simp [Ne.symm hv], false_or]
theorem wipeE_len {ρ : E} : ∀ {vs : List Nat}, (wipeE ρ vs).length = ρ.length
  | [] => rfl
  | v :: vs => by unfold wipeE; rw [List.length_set, wipeE_len]
theorem wipeE_get {ρ : E} {i : Nat} : ∀ {vs : List Nat}, (wipeE ρ vs)[i]? = if i ∈ vs ∧ i < ρ.length then some none else ρ[i]?
  | [] => by simp [wipeE]
  | v :: vs => by
    unfold wipeE
    have hl := wipeE_len (ρ := ρ) (vs := vs)
    by_cases hv : v = i
    · subst hv
      by_cases hlt : v < ρ.length
      · rw [List.getElem?_set_self (by rw [hl]; exact hlt), if_pos ⟨List.mem_cons_self, hlt⟩]
      · rw [if_neg (by intro z; exact hlt z.2), List.getElem?_eq_none (by rw [List.length_set, hl]; omega), List.getElem?_eq_none (by omega)]
    · rw [List.getElem?_set_ne hv, wipeE_get]
      simp only [List.mem_cons, show (i = v) = False by simp [Ne.symm hv], false_or]
theorem wipe_set {j : Nat} {v : Option V} {vs : List Nat} (h : j ∈ vs) : wipe (σ.set j v) vs = wipe σ vs := by
  apply List.ext_getElem?
  intro i
  rw [wipe_get, wipe_get, List.length_set]
  by_cases hi : i ∈ vs ∧ i < σ.length
  · rw [if_pos hi, if_pos hi]
  · rw [if_neg hi, if_neg hi]
    by_cases hj : j = i
    · subst hj
      rw [List.getElem?_eq_none (by rw [List.length_set]; by_cases z : j < σ.length; exact absurd ⟨h, z⟩ hi; omega), List.getElem?_eq_none (by by_cases z : j < σ.length; exact absurd ⟨h, z⟩ hi; omega)]
    · rw [List.getElem?_set_ne hj]
theorem wipe_wipe {vs : List Nat} : wipe (wipe σ vs) vs = wipe σ vs := by
  apply List.ext_getElem?
  intro i
  rw [wipe_get, wipe_get, wipe_length]
  by_cases hi : i ∈ vs ∧ i < σ.length
  · rw [if_pos hi, if_pos hi]
  · rw [if_neg hi, if_neg hi]
theorem SV.wipe {vs : List Nat} (s : SV C O0 O H σ ρ) : SV C O0 O H (wipe σ vs) (wipeE ρ vs) where
  len := by rw [wipe_length, wipeE_len, s.len]
  dom := s.dom
  sub := s.sub
  ll := s.ll
  sh := fun i d h => by
    rw [wipeE_get] at h
    split at h
    · cases h
    · rename_i hn
      obtain ⟨v, e, r⟩ := s.sh i d h
      exact ⟨v, by rw [wipe_get, if_neg (by rw [s.len]; exact hn)]; exact e, r⟩
  ow := fun i d h => by
    rw [wipeE_get] at h
    split at h
    · cases h
    · rename_i hn
      obtain ⟨a, xs, ds, e1, e2, r⟩ := s.ow i d h
      exact ⟨a, xs, ds, e1, by rw [wipe_get, if_neg (by rw [s.len]; exact hn)]; exact e2, r⟩
  inj := fun i j d e a h1 h2 h3 h4 => by
    rw [wipeE_get] at h1 h2
    split at h1
    · cases h1
    · split at h2
      · cases h2
      · rw [wipe_get] at h3 h4
        split at h3
        · cases h3
        · split at h4
          · cases h4
          · exact s.inj i j d e a h1 h2 h3 h4
/-- a slot takes a value that is shared -/
theorem SV.set {i : Nat} {v : V} {d : D} (s : SV C O0 O H σ ρ) (r : Rep C (hid H O) v d) : SV C O0 O H (σ.set i (some v)) (ρ.set i (some (d, false))) where
  len := by rw [List.length_set, List.length_set, s.len]
  dom := s.dom
  sub := s.sub
  ll := s.ll
  sh := fun j e h => by
    by_cases hj : i = j
    · subst hj
      have hl : i < ρ.length := by
        by_cases z : i < ρ.length
        · exact z
        · rw [List.getElem?_eq_none (by rw [List.length_set]; omega)] at h; cases h
      rw [List.getElem?_set_self hl] at h
      cases h
      exact ⟨v, by rw [List.getElem?_set_self (by rw [s.len]; exact hl)], r⟩
    · rw [List.getElem?_set_ne hj] at h ⊢
      exact s.sh j e h
  ow := fun j e h => by
    by_cases hj : i = j
    · subst hj
      have hl : i < ρ.length := by
        by_cases z : i < ρ.length
        · exact z
        · rw [List.getElem?_eq_none (by rw [List.length_set]; omega)] at h; cases h
      rw [List.getElem?_set_self hl] at h
      cases h
    · rw [List.getElem?_set_ne hj] at h ⊢
      exact s.ow j e h
  inj := fun j k e f a h1 h2 h3 h4 => by
    have key : ∀ {j : Nat} {e : D}, (ρ.set i (some (d, false)))[j]? = some (some (e, true)) → i ≠ j := fun {j e} h z => by
      subst z
      by_cases hl : i < ρ.length
      · rw [List.getElem?_set_self hl] at h; cases h
      · rw [List.getElem?_eq_none (by rw [List.length_set]; omega)] at h; cases h
    have n1 := key h1
    have n2 := key h2
    rw [List.getElem?_set_ne n1] at h1 h3
    rw [List.getElem?_set_ne n2] at h2 h4
    exact s.inj j k e f a h1 h2 h3 h4
/-- targets in a comprehension: names, tuples of names -/
structure DG (C : Cfg) (X : Cx) (tg : Expr) (t : TG) (g : D → E → Option E) (js : List Nat) : Prop where
  pg : PG X tg t
  sd : ∀ O0 O H σ ρ ρ' d v, SV C O0 O H σ ρ → Rep C (hid H O) v d → g d ρ = some ρ' → ∀ Q : L2.St → Hp → Prop, (∀ σ', SV C O0 O H σ' ρ' → (∀ vs, (∀ j ∈ js, j ∈ vs) → wipe σ' vs = wipe σ vs) → Q σ' H) → t v σ H Q
def gN (i : Nat) : D → E → Option E := fun d ρ => some (ρ.set i (some (d, false)))
theorem dg_name (i : Nat) {x : Str} {pos : Pos} (hN : X.N.Nodup) (hi : X.N[i]? = some x := by rfl) (hx : Loc X.env.scope x := by first | exact .inl rfl | exact .inr rfl) (hf : X.fn x = true ∨ X.env.scope.names.lookup x = some .local := by first | exact .inl rfl | exact .inr rfl) :
    DG C X (.Name x pos) (gName i) (gN i) [i] := by
  refine ⟨pg_name hN hi hx hf, fun O0 O H σ ρ ρ' d v s r e Q q => ?_⟩
  cases e
  exact q _ (s.set r) fun vs h => wipe_set (h i (by simp))
structure DGs (C : Cfg) (X : Cx) (tgs : List Expr) (t : TGs) (g : List D → E → Option E) (js : List Nat) : Prop where
  pg : PGs X tgs t
  sd : ∀ O0 O H σ ρ ρ' ds vs, SV C O0 O H σ ρ → Reps C (hid H O) vs ds → g ds ρ = some ρ' → ∀ Q : L2.St → Hp → Prop, (∀ σ', SV C O0 O H σ' ρ' → (∀ vs, (∀ j ∈ js, j ∈ vs) → wipe σ' vs = wipe σ vs) → Q σ' H) → t vs σ H Q
def gsN : List Nat → List D → E → Option E
  | [], [], ρ => some ρ
  | i :: is, d :: ds, ρ => gsN is ds (ρ.set i (some (d, false)))
  | _, _, _ => none
theorem dgs_nil : DGs C X [] gNil (gsN []) [] := by
  refine ⟨pgs_nil, fun O0 O H σ ρ ρ' ds vs s r e Q q => ?_⟩
  cases ds with
  | nil => cases r; cases e; exact ⟨rfl, q _ s fun _ _ => rfl⟩
  | cons d ds => cases e
theorem dgs_cons {i : Nat} {is : List Nat} {x : Str} {pos : Pos} {es : List Expr} {u : TGs} (hN : X.N.Nodup) (h2 : DGs C X es u (gsN is) is) (hi : X.N[i]? = some x := by rfl) (hx : Loc X.env.scope x := by first | exact .inl rfl | exact .inr rfl)
    (hf : X.fn x = true ∨ X.env.scope.names.lookup x = some .local := by first | exact .inl rfl | exact .inr rfl) (hs : (assignEach (.Name x pos :: es) X.env).map (·.2) = assign (.Name x pos) X.env :: (assignEach es X.env).map (·.2) := by rfl) :
    DGs C X (.Name x pos :: es) (gCons (gName i) u) (gsN (i :: is)) (i :: is) := by
  refine ⟨pgs_cons (pg_name hN hi hx hf) h2.pg hs, fun O0 O H σ ρ ρ' ds vs s r e Q q => ?_⟩
  cases ds with
  | nil => cases e
  | cons d ds =>
    cases r with
    | cons r1 r2 =>
      refine ⟨_, _, rfl, ?_⟩
      exact h2.sd _ _ _ _ _ _ _ _ (s.set r1) r2 e _ fun σ' s' w => q _ s' fun vs h => (w vs fun j hj => h j (List.mem_cons_of_mem _ hj)).trans (wipe_set (h i List.mem_cons_self))
def gT (is : List Nat) : D → E → Option E := fun d ρ => match d with | .tup ds => gsN is ds ρ | _ => none
theorem gsN_len : ∀ {is : List Nat} {ds : List D} {ρ ρ' : E}, gsN is ds ρ = some ρ' → ds.length = is.length
  | [], [], _, _, _ => rfl
  | [], _ :: _, _, _, h => by cases h
  | _ :: _, [], _, _, h => by cases h
  | i :: is, d :: ds, ρ, ρ', h => by simp [gsN_len (is := is) (ds := ds) h]
theorem dg_tup {is : List Nat} {es : List Expr} {k n : Nat} {t : TGs} {pos : Pos} (hK : X.K = K) (hc : X.calm = true) (h : DGs C X es t (gsN is) is) (hl : is.length = n := by rfl) (hn : (assignEach es X.env).length = n := by rfl) (hst : (assignEach es X.env).findIdx? (·.1) = none := by rfl) :
    DG C X (.Tuple es k pos) (gTup K n t) (gT is) is := by
  subst hK
  refine ⟨pg_tup hc h.pg hn hst, fun O0 O H σ ρ ρ' d v s r e Q q => ?_⟩
  unfold gT at e
  split at e
  · rename_i ds
    cases r with
    | tup h1 h2 =>
      exact ⟨_, _, rfl, .inl (.inl (hid_ex _ _ h1)), by rw [h2.length, gsN_len e, hl], h.sd _ _ _ _ _ _ _ _ s h2 e _ q⟩
  · cases e

/-! ### comprehensions -/
structure DTs (C : Cfg) (X : Cx) (ifs : List Expr) (tt : TT) (m : B) : Prop where
  pt : PTs X ifs tt
  sd : SndT C tt m
def bYes : B := fun _ => some true
theorem dts_nil : DTs C X [] tYes bYes := ⟨pts_nil, fun O0 O H σ ρ r s h Q q => by cases h; exact q _ (Evl.Ex.refl _)⟩
theorem dts_one {c : Expr} {t : TT} {m : B} (h : DT C X c t m) : DTs C X [c] t m := ⟨pts_one h.pt, h.sd⟩
def lcGo (g : D → E → Option E) (mt : B) (me : M) : List D → E → Option (List D)
  | [], _ => some []
  | d :: ds, ρ => (g d ρ).bind fun ρ1 => (mt ρ1).bind fun k => if k then (me ρ1).bind fun r => if r.2 = .bor then none else (lcGo g mt me ds ρ).map fun es => r.1 :: es else lcGo g mt me ds ρ
def mLc (mi : I) (g : D → E → Option E) (mt : B) (me : M) (vs : List Nat) : M := fun ρ => (mi ρ).bind fun ds => if ds.length ≤ lim then (lcGo g mt me ds (wipeE ρ vs)).map fun es => (.lst es, .fresh) else none
/-- one more address is hidden: a list that is new -/
theorem SV.hide {a : Addr} {xs : List V} (s : SV C O0 O H1 σ ρ) (hn : H1 a = none) (e : Ex H1 H') (ha : H' a = some (.lst xs)) : SV C O0 (a :: O) H' σ ρ where
  len := s.len
  dom := fun b hb z => by
    rcases List.mem_cons.mp hb with rfl | hb
    · rw [ha] at z; cases z
    · exact (s.mono e).dom b hb z
  sub := fun b hb => List.mem_cons_of_mem _ (s.sub b hb)
  ll := fun b hb h0 => by
    rcases List.mem_cons.mp hb with rfl | hb
    · exact ⟨xs, ha⟩
    · exact (s.mono e).ll b hb h0
  sh := fun i d h => let ⟨v, q, r⟩ := s.sh i d h; ⟨v, q, (r.mono (hid_new hn)).mono (hid_mono e)⟩
  ow := fun i d h => let ⟨b, ys, ds, q1, q2, q3, q4, q5, q6⟩ := s.ow i d h; ⟨b, ys, ds, q1, q2, List.mem_cons_of_mem _ q3, q4, e _ _ q5, (q6.mono (hid_new hn)).mono (hid_mono e)⟩
  inj := s.inj
theorem lcGo_len {g : D → E → Option E} {mt : B} {me : M} : ∀ {ds : List D} {ρ : E} {es : List D}, lcGo g mt me ds ρ = some es → es.length ≤ ds.length
  | [], _, _, h => by cases h; simp
  | d :: ds, ρ, es, h => by
    unfold lcGo at h
    cases e1 : g d ρ with
    | none => rw [e1] at h; cases h
    | some ρ1 =>
      rw [e1] at h
      replace h : ((mt ρ1).bind fun k => if k then (me ρ1).bind fun r => if r.2 = .bor then none else (lcGo g mt me ds ρ).map fun es => r.1 :: es else lcGo g mt me ds ρ) = some es := h
      cases e2 : mt ρ1 with
      | none => rw [e2] at h; cases h
      | some k =>
        rw [e2] at h
        cases k with
        | false => have := lcGo_len (es := es) h; simp only [List.length_cons]; omega
        | true =>
          replace h : ((me ρ1).bind fun r => if r.2 = .bor then none else (lcGo g mt me ds ρ).map fun es => r.1 :: es) = some es := h
          cases e3 : me ρ1 with
          | none => rw [e3] at h; cases h
          | some r =>
            rw [e3] at h
            replace h : (if r.2 = .bor then none else (lcGo g mt me ds ρ).map fun es => r.1 :: es) = some es := h
            split at h
            · cases h
            · cases e4 : lcGo g mt me ds ρ with
              | none => rw [e4] at h; cases h
              | some es' =>
                rw [e4] at h; cases h
                have := lcGo_len e4
                simp only [List.length_cons]; omega
variable {elt tg iter : Expr} {ifs : List Expr} {scope : Scope} {own : List (Str × Nat)} {wi : TI} {g : TG} {tt : TT} {te : TE} {mi : I} {mg : D → E → Option E} {mt : B} {me : M} {js : List Nat}
theorem snd_lc {vs : List Nat} (hi : ∀ O0 O H σ ρ ds, SV C O0 O H σ ρ → mi ρ = some ds → ∀ R : It → Hp → Prop, (∀ J H1, Ex H H1 → ItOk C true O H1 J ds → R J H1) → wi σ H R)
    (hg : ∀ O0 O H σ ρ ρ' d v, SV C O0 O H σ ρ → Rep C (hid H O) v d → mg d ρ = some ρ' → ∀ Q : L2.St → Hp → Prop, (∀ σ', SV C O0 O H σ' ρ' → (∀ vs, (∀ j ∈ js, j ∈ vs) → wipe σ' vs = wipe σ vs) → Q σ' H) → g v σ H Q)
    (ht : SndT C tt mt) (he : Snd C te me) (hj : ∀ j ∈ js, j ∈ vs) : Snd C (tLc wi g tt te vs) (mLc mi mg mt me vs) := by
  intro O0 O H σ ρ r s h Q q
  unfold mLc at h
  cases ei : mi ρ with
  | none => rw [ei] at h; cases h
  | some ds =>
    rw [ei] at h
    replace h : (if ds.length ≤ lim then (lcGo mg mt me ds (wipeE ρ vs)).map fun es => ((.lst es, .fresh) : D × Fl) else none) = some r := h
    split at h
    · rename_i hlen
      cases el : lcGo mg mt me ds (wipeE ρ vs) with
      | none => rw [el] at h; cases h
      | some es =>
        rw [el] at h; cases h
        refine hi _ _ _ _ _ _ s ei _ fun J H1 e1 ok => fun Dl hD => ?_
        have s1 := s.mono e1
        refine ⟨fun i m Hc => m = ds.length - i ∧ i ≤ ds.length ∧ Ex H1 Hc ∧ ∃ acc da dr, Hc Dl = some (.lst acc) ∧ Reps C (hid Hc (Dl :: O)) acc da ∧ da.length ≤ i ∧ lcGo mg mt me (ds.drop i) (wipeE ρ vs) = some dr ∧ es = da ++ dr,
          ⟨_, rfl, Nat.zero_le _, Evl.Ex.new hD, [], [], es, upd_same, .nil, Nat.le_refl _, by simpa using el, rfl⟩, ?_⟩
        rintro i m Hc ⟨rfl, hi', ex, acc, da, dr, ha, hr, hdl, hgo, hes⟩
        have dmc : ∀ b ∈ Dl :: O, Hc b ≠ none := fun b hb z => by
          rcases List.mem_cons.mp hb with rfl | hb
          · rw [ha] at z; cases z
          · exact (s1.mono ex).dom b hb z
        have exh : Ex (hid H1 O) (hid Hc (Dl :: O)) := (hid_new hD).trans (hid_mono ex)
        obtain ⟨okg, oks⟩ := ok Hc (Dl :: O) (fun _ => ex) exh dmc i
        by_cases hlt : i < ds.length
        · have hd : ds[i]? = some ds[i] := List.getElem?_eq_getElem hlt
          obtain ⟨go, yl⟩ := okg _ hd
          rw [List.drop_eq_getElem_cons hlt] at hgo
          unfold lcGo at hgo
          refine .inr ⟨go, fun Hn => Ex H1 Hn ∧ ∃ acc da dr, Hn Dl = some (.lst acc) ∧ Reps C (hid Hn (Dl :: O)) acc da ∧ da.length ≤ i + 1 ∧ lcGo mg mt me (ds.drop (i + 1)) (wipeE ρ vs) = some dr ∧ es = da ++ dr,
            fun H' hn => ⟨_, by omega, rfl, hlt, hn.1, hn.2⟩, fun x H3 y => ?_⟩
          obtain ⟨e3, rx⟩ := yl x H3 y
          have ex3 : Ex H1 H3 := ex.trans e3
          have ha3 : H3 Dl = some (.lst acc) := e3 _ _ ha
          have s3 : SV C O0 (Dl :: O) H3 (wipe σ vs) (wipeE ρ vs) := (s1.wipe).hide hD ex3 ha3
          have hr3 : Reps C (hid H3 (Dl :: O)) acc da := hr.mono (hid_mono e3)
          cases eg : mg ds[i] (wipeE ρ vs) with
          | none => rw [eg] at hgo; cases hgo
          | some ρ1 =>
            rw [eg] at hgo
            replace hgo : ((mt ρ1).bind fun k => if k then (me ρ1).bind fun r => if r.2 = .bor then none else (lcGo mg mt me (ds.drop (i + 1)) (wipeE ρ vs)).map fun es => r.1 :: es else lcGo mg mt me (ds.drop (i + 1)) (wipeE ρ vs)) = some dr := hgo
            refine hg _ _ _ _ _ _ _ _ s3 rx eg _ fun σ2 s4 w => ⟨(w vs hj).trans wipe_wipe, ?_⟩
            cases et : mt ρ1 with
            | none => rw [et] at hgo; cases hgo
            | some k =>
              rw [et] at hgo
              refine ht _ _ _ _ _ _ s4 et _ fun H4 e4 => ?_
              cases k with
              | false =>
                rw [if_neg Bool.false_ne_true]
                exact ⟨ex3.trans e4, acc, da, dr, e4 _ _ ha3, hr3.mono (hid_mono e4), by omega, hgo, hes⟩
              | true =>
                rw [if_pos rfl]
                replace hgo : ((me ρ1).bind fun r => if r.2 = .bor then none else (lcGo mg mt me (ds.drop (i + 1)) (wipeE ρ vs)).map fun es => r.1 :: es) = some dr := hgo
                cases em : me ρ1 with
                | none => rw [em] at hgo; cases hgo
                | some rz =>
                  rw [em] at hgo
                  replace hgo : (if rz.2 = .bor then none else (lcGo mg mt me (ds.drop (i + 1)) (wipeE ρ vs)).map fun es => rz.1 :: es) = some dr := hgo
                  split at hgo
                  · cases hgo
                  · rename_i hnb
                    cases eo : lcGo mg mt me (ds.drop (i + 1)) (wipeE ρ vs) with
                    | none => rw [eo] at hgo; cases hgo
                    | some dr' =>
                      rw [eo] at hgo
                      cases hgo
                      refine he _ _ _ _ _ _ (s4.mono e4) em _ fun v5 H5 e5 r5 => ?_
                      have ha5 : H5 Dl = some (.lst acc) := e5 _ _ (e4 _ _ ha3)
                      have hr5 : Reps C (hid H5 (Dl :: O)) acc da := (hr3.mono (hid_mono e4)).mono (hid_mono e5)
                      have hal := hr5.length
                      have rv : Rep C (hid H5 (Dl :: O)) v5 rz.1 := r5.sharedF (s4.mono e4).dom hnb
                      refine ⟨acc, ha5, lim_lt (by omega), ((ex3.trans e4).trans e5).mut hD, acc ++ [v5], da ++ [rz.1], dr', upd_same, ?_, by simp; omega, rfl, by rw [hes]; simp⟩
                      rw [hid_upd List.mem_cons_self]
                      exact hr5.append (.cons rv .nil)
        · have hie : ds.length ≤ i := by omega
          rw [List.drop_eq_nil_of_le hie] at hgo
          cases hgo
          rw [List.append_nil] at hes
          subst hes
          exact .inl ⟨oks hie, q _ _ (e1.trans ex) (.fresh (Evl.fresh_back e1 hD) ha hr)⟩
    · cases h
theorem de_lc {pos : Pos} (hc : X.calm = true) (hN : X.N.Nodup) (hi : DI C true X tg iter wi mi) (ok : BlkOk X.N X.env.scope scope own)
    (hg : ∀ (s : Shared) (H : Hp) (A : Addr) (cl : List (Str × Addr)) (fp : List Addr), DG C (X.blk s H scope (compEnvC scope cl A X.env) fp) tg g mg js) (ht : ∀ (s : Shared) (H : Hp) (A : Addr) (cl : List (Str × Addr)) (fp : List Addr), DTs C (X.blk s H scope (compEnvC scope cl A X.env) fp) ifs tt mt)
    (he : ∀ (s : Shared) (H : Hp) (A : Addr) (cl : List (Str × Addr)) (fp : List Addr), DE C (X.blk s H scope (compEnvC scope cl A X.env) fp) elt te me) (hj : ∀ j ∈ js, j ∈ own.map (·.2) := by decide) (hs : ∀ x, foldedSetIterable iter X.env x = pure x := by intro _; rfl) :
    DE C X (.ListComp elt [⟨tg, iter, ifs, 0⟩] scope pos) (tLc wi g tt te (own.map (·.2))) (mLc mi mg mt me (own.map (·.2))) :=
  ⟨pe_lc hc hN hi.pi ok (fun s H A cl fp => (hg s H A cl fp).pg) (fun s H A cl fp => (ht s H A cl fp).pt) (fun s H A cl fp => (he s H A cl fp).pe) hs,
    snd_lc hi.sd (hg {} (fun _ => none) 0 [] []).sd (ht {} (fun _ => none) 0 [] []).sd (he {} (fun _ => none) 0 [] []).sd hj⟩
end
end Dt

set_option maxRecDepth 100000
namespace Dt
open PySem PySem.Spec PyProof.Rows L2
open Evl (Ex)

inductive Out | nx (ρ : E) | rt (d : D) (fr : Bool)
abbrev S := E → Option Out
structure SS (C : Cfg) (H0 : Hp) (O0 O : List Addr) (H : Hp) (σ : L2.St) (ρ : E) : Prop extends SV C O0 O H σ ρ where
  base : Ex H0 H
  new : ∀ a ∈ O, a ∉ O0 → H0 a = none
def RetOk (C : Cfg) (O : List Addr) (H H' : Hp) (v : V) (d : D) (fr : Bool) : Prop :=
  if fr = true then ∃ a xs ds, v = .ref a ∧ d = .lst ds ∧ H a = none ∧ H' a = some (.lst xs) ∧ Reps C (hid H' (a :: O)) xs ds else Rep C (hid H' O) v d
section
variable {C : Cfg} {K : PySem.W.Frag} {X : Cx} {O0 O O' : List Addr} {H0 H H' H1 : Hp} {σ : L2.St} {ρ : E}
theorem SS.mono (e : Ex H H') (s : SS C H0 O0 O H σ ρ) : SS C H0 O0 O H' σ ρ := ⟨s.toSV.mono e, s.base.trans e, s.new⟩
/-- what follows a statement -/
def Goes (C : Cfg) (H0 : Hp) (O0 O : List Addr) (H : Hp) (D : Ends) : Out → Prop
  | .nx ρ' => ∀ O' H' σ', SS C H0 O0 O' H' σ' ρ' → Ex (hid H O) (hid H' O') → D.nx σ' H'
  | .rt d fr => ∀ v H', Ex H0 H' → RetOk C O0 H0 H' v d fr → D.rt v H'
def SndS (C : Cfg) (ts : TS) (m : S) : Prop := ∀ H0 O0 O H σ ρ o, SS C H0 O0 O H σ ρ → m ρ = some o → ∀ D : Ends, Goes C H0 O0 O H D o → ts D σ H
structure DS (C : Cfg) (X : Cx) (st : Stmt) (t : TS) (m : S) : Prop where
  ps : PS X st t
  sd : SndS C t m
structure DSs (C : Cfg) (X : Cx) (st : List Stmt) (t : TS) (m : S) : Prop where
  ps : PSs X st t
  sd : SndS C t m
theorem Goes.back {D : Ends} {o : Out} (e : Ex (hid H O) (hid H' O')) (g : Goes C H0 O0 O H D o) : Goes C H0 O0 O' H' D o := by
  cases o with
  | nx ρ' => exact fun O2 H2 σ2 s e2 => g O2 H2 σ2 s (e.trans e2)
  | rt d fr => exact g
variable {st : Stmt} {rest sts : List Stmt} {t u : TS} {m n : S} {pos : Pos} {e : Expr} {te : TE} {me : M}
def sNil : S := fun ρ => some (.nx ρ)
def sSeq (m n : S) : S := fun ρ => (m ρ).bind fun o => match o with | .nx ρ' => n ρ' | .rt d f => some (.rt d f)
theorem dss_nil : DSs C X [] tNext sNil := ⟨pss_nil, fun H0 O0 O H σ ρ o s h D g => by cases h; exact g _ _ _ s (Evl.Ex.refl _)⟩
theorem dss_cons (h1 : DS C X st t m) (h2 : DSs C X rest u n) : DSs C X (st :: rest) (tSeq t u) (sSeq m n) := by
  refine ⟨pss_cons h1.ps h2.ps, fun H0 O0 O H σ ρ o s h D g => ?_⟩
  unfold sSeq at h
  cases em : m ρ with
  | none => rw [em] at h; cases h
  | some o1 =>
    rw [em] at h
    refine h1.sd _ _ _ _ _ _ _ s em _ ?_
    cases o1 with
    | nx ρ1 => exact fun O' H' σ' s' e' => h2.sd _ _ _ _ _ _ _ s' h D (g.back e')
    | rt d f => cases h; exact g
theorem dss_one (h1 : DS C X st t m) : DSs C X [st] t m := ⟨pss_one h1.ps, h1.sd⟩
def sNo : S := fun _ => none
theorem ds_never : DS C X st tNever sNo := ⟨ps_never, fun _ _ _ _ _ _ _ _ h => by cases h⟩
theorem dss_never : DSs C X sts tNever sNo := ⟨pss_never, fun _ _ _ _ _ _ _ _ h => by cases h⟩
theorem ds_pass : DS C X (.Pass pos) tNext sNil := ⟨ps_pass, fun H0 O0 O H σ ρ o s h D g => by cases h; exact g _ _ _ s (Evl.Ex.refl _)⟩

/-! ### name = e -/
theorem SS.setP {i : Nat} {v : V} {d : D} (s : SS C H0 O0 O H σ ρ) (r : Rep C (hid H O) v d) : SS C H0 O0 O H (σ.set i (some v)) (ρ.set i (some (d, false))) := ⟨s.toSV.set r, s.base, s.new⟩
/-- a new list is owned -/
theorem SS.setF {i : Nat} {a : Addr} {xs : List V} {ds : List D} (s : SS C H0 O0 O H σ ρ) (e : Ex H H') (hn : H a = none) (ha : H' a = some (.lst xs)) (r : Reps C (hid H' (a :: O)) xs ds) :
    SS C H0 O0 (a :: O) H' (σ.set i (some (.ref a))) (ρ.set i (some (.lst ds, true))) := by
  have hO : a ∉ O := fun z => s.dom a z hn
  have hO0 : a ∉ O0 := fun z => hO (s.sub a z)
  have s2 := s.toSV.hide hn e ha
  have lt_of : ∀ {j : Nat} {x : D × Bool}, (ρ.set i (some (.lst ds, true)))[j]? = some (some x) → j < ρ.length := fun {j x} h => by
    have := (List.getElem?_eq_some_iff.mp h).1
    rwa [List.length_set] at this
  refine ⟨⟨by rw [List.length_set, List.length_set, s.len], s2.dom, s2.sub, s2.ll, fun j d h => ?_, fun j d h => ?_, fun j k d d' b h1 h2 h3 h4 => ?_⟩, s.base.trans e, fun b hb h0 => ?_⟩
  · have hl := lt_of h
    by_cases hj : i = j
    · subst hj; rw [List.getElem?_set_self hl] at h; cases h
    · rw [List.getElem?_set_ne hj] at h ⊢; exact s2.sh j d h
  · have hl := lt_of h
    by_cases hj : i = j
    · subst hj
      rw [List.getElem?_set_self hl] at h
      cases h
      exact ⟨a, xs, ds, rfl, by rw [List.getElem?_set_self (by rw [s.len]; exact hl)], List.mem_cons_self, hO0, ha, r⟩
    · rw [List.getElem?_set_ne hj] at h ⊢; exact s2.ow j d h
  · have l1 := lt_of h1
    have l2 := lt_of h2
    have old : ∀ {j : Nat} {d : D}, i ≠ j → (ρ.set i (some (.lst ds, true)))[j]? = some (some (d, true)) → (σ.set i (some (.ref a)))[j]? = some (some (.ref b)) → b ∈ O := fun {j d} hj h h' => by
      rw [List.getElem?_set_ne hj] at h h'
      obtain ⟨a', _, _, _, q, q2, _⟩ := s.ow j d h
      rw [q] at h'; cases h'; exact q2
    by_cases hj : i = j
    · by_cases hk : i = k
      · rw [← hj, ← hk]
      · have hb := old hk h2 h4
        subst hj
        rw [List.getElem?_set_self (by rw [s.len]; exact l1)] at h3
        cases h3
        exact absurd hb hO
    · by_cases hk : i = k
      · have hb := old hj h1 h3
        subst hk
        rw [List.getElem?_set_self (by rw [s.len]; exact l2)] at h4
        cases h4
        exact absurd hb hO
      · rw [List.getElem?_set_ne hj] at h1 h3
        rw [List.getElem?_set_ne hk] at h2 h4
        exact s.inj j k d d' b h1 h2 h3 h4
  · rcases List.mem_cons.mp hb with rfl | hb
    · exact Evl.fresh_back s.base hn
    · exact s.new b hb h0
def sSet (i : Nat) (m : M) : S := fun ρ => (m ρ).bind fun r => match r.2 with
  | .pure => some (.nx (ρ.set i (some (r.1, false))))
  | .fresh => some (.nx (ρ.set i (some (r.1, true))))
  | .bor => none
theorem snd_set {i : Nat} (h : Snd C te me) : SndS C (tAsg te (gName i)) (sSet i me) := by
  intro H0 O0 O H σ ρ o s h1 D g
  unfold sSet at h1
  cases em : me ρ with
  | none => rw [em] at h1; cases h1
  | some r =>
    rw [em] at h1
    obtain ⟨d, fl⟩ := r
    refine h _ _ _ _ _ _ s.toSV em _ fun v H' e r => ?_
    cases fl with
    | pure =>
      cases h1
      cases r with
      | pure w => exact g _ _ _ ((s.mono e).setP w) (hid_mono e)
    | fresh =>
      cases h1
      cases r with
      | fresh h1 h2 h3 => exact g _ _ _ (s.setF e h1 h2 h3) ((hid_new h1).trans (hid_mono e))
    | bor => cases h1
theorem ds_set (i : Nat) {x : Str} {pos' : Pos} (hN : X.N.Nodup) (he : DE C X e te me) (hi : X.N[i]? = some x := by rfl) (hx : Loc X.env.scope x := by first | exact .inl rfl | exact .inr rfl) (hs : swapsWith e (some (.Name x pos')) pos.line X.env = pure false := by rfl)
    (hf : X.fn x = true ∨ X.env.scope.names.lookup x = some .local := by first | exact .inl rfl | exact .inr rfl) : DS C X (.Assign [.Name x pos'] e pos) (tAsg te (gName i)) (sSet i me) := ⟨ps_set hN hi hx he.pe hs hf, snd_set he.sd⟩
/-- name = [.. for ..] on one line -/
theorem ds_setLc (i : Nat) {y : Str} {py : Pos} {elt tg iter : Expr} {ifs : List Expr} {scope : Scope} {own : List (Str × Nat)} {pos spos : Pos} {wi : TI} {g : TG} {tt : TT} {mi : I} {mg : D → E → Option E} {mt : B} {js : List Nat}
    (hc : X.calm = true) (hN : X.N.Nodup) (hi : DI C true X tg iter wi mi) (ok : BlkOk X.N X.env.scope scope own)
    (hg : ∀ (s : Shared) (H : Hp) (A : Addr) (cl : List (Str × Addr)) (fp : List Addr), DG C (X.blk s H scope (compEnvC scope cl A X.env) fp) tg g mg js) (ht : ∀ (s : Shared) (H : Hp) (A : Addr) (cl : List (Str × Addr)) (fp : List Addr), DTs C (X.blk s H scope (compEnvC scope cl A X.env) fp) ifs tt mt)
    (he : ∀ (s : Shared) (H : Hp) (A : Addr) (cl : List (Str × Addr)) (fp : List Addr), DE C (X.blk s H scope (compEnvC scope cl A X.env) fp) elt te me) (hj : ∀ j ∈ js, j ∈ own.map (·.2) := by decide)
    (hy : X.N[i]? = some y := by rfl) (hyl : X.env.scope.names.lookup y = some .local := by rfl)
    (hsw : swapsWith (.ListComp elt [⟨tg, iter, ifs, 0⟩] scope pos) (some (.Name y py)) spos.line X.env = pure true := by exact sw_true rfl rfl rfl (by decide +kernel)) (hs : ∀ x, foldedSetIterable iter X.env x = pure x := by intro _; rfl) :
    DS C X (.Assign [.Name y py] (.ListComp elt [⟨tg, iter, ifs, 0⟩] scope pos) spos) (tAsg (tLc wi g tt te (own.map (·.2))) (gName i)) (sSet i (mLc mi mg mt me (own.map (·.2)))) :=
  ⟨ps_setLc hc hN hy hyl hsw hi.pi ok (fun s H A cl fp => (hg s H A cl fp).pg) (fun s H A cl fp => (ht s H A cl fp).pt) (fun s H A cl fp => (he s H A cl fp).pe) hs,
    snd_set (snd_lc hi.sd (hg {} (fun _ => none) 0 [] []).sd (ht {} (fun _ => none) 0 [] []).sd (he {} (fun _ => none) 0 [] []).sd hj)⟩

/-! ### targets of any kind, by a state -/
structure DGS (C : Cfg) (X : Cx) (tg : Expr) (t : TG) (g : D → E → Option E) : Prop where
  pg : PG X tg t
  sd : ∀ H0 O0 O H σ ρ ρ' d v, SS C H0 O0 O H σ ρ → Rep C (hid H O) v d → g d ρ = some ρ' → ∀ Q : L2.St → Hp → Prop, (∀ σ' H', SS C H0 O0 O H' σ' ρ' → Ex (hid H O) (hid H' O) → Q σ' H') → t v σ H Q
structure DGSs (C : Cfg) (X : Cx) (tgs : List Expr) (t : TGs) (g : List D → E → Option E) : Prop where
  pg : PGs X tgs t
  sd : ∀ H0 O0 O H σ ρ ρ' ds vs, SS C H0 O0 O H σ ρ → Reps C (hid H O) vs ds → g ds ρ = some ρ' → ∀ Q : L2.St → Hp → Prop, (∀ σ' H', SS C H0 O0 O H' σ' ρ' → Ex (hid H O) (hid H' O) → Q σ' H') → t vs σ H Q
theorem dgs_n (i : Nat) {x : Str} {pos : Pos} (hN : X.N.Nodup) (hi : X.N[i]? = some x := by rfl) (hx : Loc X.env.scope x := by first | exact .inl rfl | exact .inr rfl) (hf : X.fn x = true ∨ X.env.scope.names.lookup x = some .local := by first | exact .inl rfl | exact .inr rfl) :
    DGS C X (.Name x pos) (gName i) (gN i) := by
  refine ⟨pg_name hN hi hx hf, fun H0 O0 O H σ ρ ρ' d v s r e Q q => ?_⟩
  cases e
  exact q _ _ (s.setP r) (Evl.Ex.refl _)
def gsNil : List D → E → Option E := fun ds ρ => match ds with | [] => some ρ | _ => none
def gsCons (g : D → E → Option E) (gs : List D → E → Option E) : List D → E → Option E := fun ds ρ => match ds with | d :: ds => (g d ρ).bind fun ρ1 => gs ds ρ1 | _ => none
theorem dgss_nil : DGSs C X [] gNil gsNil := by
  refine ⟨pgs_nil, fun H0 O0 O H σ ρ ρ' ds vs s r e Q q => ?_⟩
  cases ds with
  | nil => cases r; cases e; exact ⟨rfl, q _ _ s (Evl.Ex.refl _)⟩
  | cons d ds => cases e
theorem dgss_cons {a : Expr} {es : List Expr} {t1 : TG} {g1 : D → E → Option E} {u1 : TGs} {gs : List D → E → Option E} (h1 : DGS C X a t1 g1) (h2 : DGSs C X es u1 gs) (hs : (assignEach (a :: es) X.env).map (·.2) = assign a X.env :: (assignEach es X.env).map (·.2) := by rfl) :
    DGSs C X (a :: es) (gCons t1 u1) (gsCons g1 gs) := by
  refine ⟨pgs_cons h1.pg h2.pg hs, fun H0 O0 O H σ ρ ρ' ds vs s r e Q q => ?_⟩
  cases ds with
  | nil => cases e
  | cons d ds =>
    cases r with
    | cons r1 r2 =>
      unfold gsCons at e
      replace e : ((g1 d ρ).bind fun ρ1 => gs ds ρ1) = some ρ' := e
      cases e1 : g1 d ρ with
      | none => rw [e1] at e; cases e
      | some ρ1 =>
        rw [e1] at e
        refine ⟨_, _, rfl, ?_⟩
        refine h1.sd _ _ _ _ _ _ _ _ _ s r1 e1 _ fun σ1 H1 s1 x1 => ?_
        exact h2.sd _ _ _ _ _ _ _ _ _ s1 (r2.mono x1) e _ fun σ2 H2 s2 x2 => q _ _ s2 (x1.trans x2)
def gTs (k : Nat) (gs : List D → E → Option E) : D → E → Option E := fun d ρ => match d with | .tup ds => if ds.length = k then gs ds ρ else none | _ => none
theorem dgs_t {es : List Expr} {k n : Nat} {t : TGs} {gs : List D → E → Option E} {pos : Pos} (hK : X.K = K) (hc : X.calm = true) (h : DGSs C X es t gs) (hn : (assignEach es X.env).length = n := by rfl) (hst : (assignEach es X.env).findIdx? (·.1) = none := by rfl) :
    DGS C X (.Tuple es k pos) (gTup K n t) (gTs n gs) := by
  subst hK
  refine ⟨pg_tup hc h.pg hn hst, fun H0 O0 O H σ ρ ρ' d v s r e Q q => ?_⟩
  unfold gTs at e
  split at e
  · rename_i ds
    split at e
    · rename_i hl
      cases r with
      | tup h1 h2 => exact ⟨_, _, rfl, .inl (.inl (hid_ex _ _ h1)), by rw [h2.length, hl], h.sd _ _ _ _ _ _ _ _ _ s h2 e _ q⟩
    · cases e
  · cases e
/-- an owned list changes -/
theorem SS.write {i : Nat} {a : Addr} {xs : List V} {ds es : List D} (s : SS C H0 O0 O H σ ρ) (hi : ρ[i]? = some (some (.lst ds, true))) (ha : σ[i]? = some (some (.ref a))) (hO : a ∈ O) (hO0 : a ∉ O0) (r : Reps C (hid H O) xs es) :
    SS C H0 O0 O (upd H a (.lst xs)) σ (ρ.set i (some (.lst es, true))) := by
  have hh : hid (upd H a (.lst xs)) O = hid H O := hid_upd hO
  have hil : i < ρ.length := (List.getElem?_eq_some_iff.mp hi).1
  refine ⟨⟨by rw [List.length_set, s.len], fun b hb z => ?_, s.sub, fun b hb h0 => ?_, fun j d h => ?_, fun j d h => ?_, fun j k d d' b h1 h2 h3 h4 => ?_⟩, s.base.mut (s.new a hO hO0), s.new⟩
  · by_cases hba : b = a
    · subst hba; rw [upd_same] at z; cases z
    · rw [upd_ne hba] at z; exact s.dom b hb z
  · by_cases hba : b = a
    · subst hba; exact ⟨xs, upd_same⟩
    · rw [upd_ne hba]; exact s.ll b hb h0
  · rw [hh]
    by_cases hj : i = j
    · subst hj; rw [List.getElem?_set_self hil] at h; cases h
    · rw [List.getElem?_set_ne hj] at h; exact s.sh j d h
  · rw [hh]
    by_cases hj : i = j
    · subst hj
      rw [List.getElem?_set_self hil] at h
      cases h
      exact ⟨a, xs, es, rfl, ha, hO, hO0, upd_same, r⟩
    · rw [List.getElem?_set_ne hj] at h
      obtain ⟨b, ys, fs, q1, q2, q3, q4, q5, q6⟩ := s.ow j d h
      have hba : b ≠ a := fun z => hj (s.inj i j _ _ a hi h ha (by rw [← z]; exact q2))
      exact ⟨b, ys, fs, q1, q2, q3, q4, by rw [upd_ne hba]; exact q5, q6⟩
  · have key : ∀ {j : Nat} {d : D}, (ρ.set i (some (.lst es, true)))[j]? = some (some (d, true)) → ∃ d', ρ[j]? = some (some (d', true)) := fun {j d} h => by
      by_cases hj : i = j
      · subst hj; exact ⟨_, hi⟩
      · rw [List.getElem?_set_ne hj] at h; exact ⟨_, h⟩
    obtain ⟨e1, k1⟩ := key h1
    obtain ⟨e2, k2⟩ := key h2
    exact s.inj j k e1 e2 b k1 k2 h3 h4
/-- xs[i] = v -/
def gIx (k : Nat) (mi : M) : D → E → Option E := fun d ρ => match ρ[k]? with
  | some (some (.lst ds, true)) => (mi ρ).bind fun r => match r.1 with
    | .int j => (ixN ds.length j).map fun n => ρ.set k (some (.lst (ds.set n d), true))
    | _ => none
  | _ => none
theorem dgs_ix (k : Nat) {x : Str} {i : Expr} {ti : TE} {mi : M} {p : Pos} (hi : DE C X i ti mi) (hN : X.N[k]? = some x := by rfl) (hv : Vis X.env.scope x := by first | exact Or.inl rfl | exact Or.inr (Or.inl rfl) | exact Or.inr (Or.inr rfl))
    (hd : (x == ("__debug__" : Str)) = false := by decide) (hcd : (x == ("__classdict__" : Str)) = false := by decide)
    (ha : ∀ v, assign (.Subscript (.Name x p) i pos) X.env v = (do
      let ov ← holding [v] (eval (.Name x p) X.env)
      let iv ← holding [v, ov] (eval i X.env)
      standAt pos
      holding [v, ov, iv] (setItem ov iv v)
      release [v, ov, iv] []) := by intro _; rfl) :
    DGS C X (.Subscript (.Name x p) i pos) (gSub (tVar k) ti rSetL) (gIx k mi) := by
  refine ⟨pg_sub (pe_var hN hv hd hcd) hi.pe set_list ha, fun H0 O0 O H σ ρ ρ' d v s r e Q q => ?_⟩
  unfold gIx at e
  split at e
  · rename_i ds ek
    cases ei : mi ρ with
    | none => rw [ei] at e; cases e
    | some ri =>
      rw [ei] at e
      obtain ⟨di, fi⟩ := ri
      cases di with
      | int j =>
        replace e : ((ixN ds.length j).map fun n => ρ.set k (some (.lst (ds.set n d), true))) = some ρ' := e
        cases en : ixN ds.length j with
        | none => rw [en] at e; cases e
        | some n =>
          rw [en] at e; cases e
          obtain ⟨a, xs, ds', h0, h1, h2, h3, h4, h5⟩ := s.ow k _ ek
          cases h0
          refine ⟨_, h1, ?_⟩
          refine hi.sd _ _ _ _ _ _ s.toSV ei _ fun w H1 e1 rw' => ?_
          cases rw'.intE
          have h5' := h5.mono (hid_mono (O := O) e1)
          refine ⟨a, xs, j, n, rfl, rfl, e1 _ _ h4, by rw [h5.length]; exact en, ?_⟩
          refine q _ _ ((s.mono e1).write ek h1 h2 h3 (h5'.set (r.mono (hid_mono e1)) n)) ?_
          rw [hid_upd h2]
          exact hid_mono e1
      | _ => cases e
  · cases e
def sAsg (m : M) (g : D → E → Option E) : S := fun ρ => (m ρ).bind fun r => if r.2 = .pure then (g r.1 ρ).map .nx else none
theorem ds_asg {tg : Expr} {g : TG} {mg : D → E → Option E} (he : DE C X e te me) (hg : DGS C X tg g mg) (hs : swapsWithSole [tg] e pos.line X.env = pure false := by rfl) (hw : swappedStores [tg] e X.env = pure none := by rfl)
    (h1 : (assignEach [tg] X.env).map (·.2) = [assign tg X.env] := by rfl) : DS C X (.Assign [tg] e pos) (tAsg te g) (sAsg me mg) := by
  refine ⟨ps_asg he.pe hg.pg hs hw h1, fun H0 O0 O H σ ρ o s h D gq => ?_⟩
  unfold sAsg at h
  cases em : me ρ with
  | none => rw [em] at h; cases h
  | some r =>
    rw [em] at h
    obtain ⟨d, fl⟩ := r
    replace h : (if fl = .pure then (mg d ρ).map Out.nx else none) = some o := h
    split at h
    · rename_i hf
      subst hf
      cases eg : mg d ρ with
      | none => rw [eg] at h; cases h
      | some ρ1 =>
        rw [eg] at h; cases h
        refine he.sd _ _ _ _ _ _ s.toSV em _ fun v H1 e1 r1 => ?_
        cases r1 with
        | pure w => exact hg.sd _ _ _ _ _ _ _ _ _ (s.mono e1) w eg _ fun σ2 H2 s2 x2 => gq _ _ _ s2 ((hid_mono e1).trans x2)
    · cases h
/-- a, b = x, y: names -/
def sPar (i j : Nat) (n : As) : S := fun ρ => (n ρ).bind fun rs => match rs with
  | [(d, .pure), (e, .pure)] => some (.nx ((ρ.set i (some (d, false))).set j (some (e, false))))
  | _ => none
/-- name op= e, ints -/
def sAug (i : Nat) (f : Int → Int → Int) (m : M) : S := fun ρ => match ρ[i]? with
  | some (some (.int a, false)) => (m ρ).bind fun r => match r.1 with
    | .int b => some (.nx (ρ.set i (some (.int (f a b), false))))
    | _ => none
  | _ => none
theorem ds_aug (i : Nat) {x : Str} {op : Operator} {f : Int → Int → Int} {pos' : Pos} (hN : X.N.Nodup) (ho : PIp X op (ipI f)) (he : DE C X e te me) (hi : X.N[i]? = some x := by rfl) (hx : Loc X.env.scope x := by first | exact .inl rfl | exact .inr rfl)
    (hf : X.fn x = true ∨ X.env.scope.names.lookup x = some .local := by first | exact .inl rfl | exact .inr rfl) : DS C X (.AugAssign (.Name x pos') op e pos) (tAug i te (ipI f)) (sAug i f me) := by
  refine ⟨ps_aug hN hi hx he.pe ho hf, fun H0 O0 O H σ ρ o s h D g => ?_⟩
  unfold sAug at h
  split at h
  · rename_i a ea
    cases em : me ρ with
    | none => rw [em] at h; cases h
    | some r =>
      rw [em] at h
      obtain ⟨d, fl⟩ := r
      cases d with
      | int b =>
        cases h
        obtain ⟨v, h1, h2⟩ := s.sh i _ ea
        cases h2
        refine ⟨_, h1, ?_⟩
        refine he.sd _ _ _ _ _ _ s.toSV em _ fun w H1 e1 r1 => ?_
        cases r1.intE
        exact ⟨a, b, rfl, rfl, g _ _ _ ((s.mono e1).setP (.int _)) (hid_mono e1)⟩
      | _ => cases h
  · cases h

/-! ### xs.append(e), xs.reverse() -/
def sApp (k : Nat) (m : M) : S := fun ρ => (m ρ).bind fun r => if r.2 = .bor then none else match ρ[k]? with
  | some (some (.lst ds, true)) => if ds.length < lim then some (.nx (ρ.set k (some (.lst (ds ++ [r.1]), true)))) else none
  | _ => none
theorem ds_append (k : Nat) {x : Str} {p apos cpos : Pos} (hK : X.K = K) (he : DE C X e te me) (hN : X.N[k]? = some x := by rfl) (hv : Vis X.env.scope x := by first | exact Or.inl rfl | exact Or.inr (Or.inl rfl) | exact Or.inr (Or.inr rfl))
    (hd : (x == ("__debug__" : Str)) = false := by decide) (hcd : (x == ("__classdict__" : Str)) = false := by decide)
    (hbase : attributeBase (.Name x p) "append" X.env (eval (.Name x p) X.env) = eval (.Name x p) X.env := by rfl)
    (hfew : ((backTo cpos (starEach [e] X.env)).all (fun x => !x.1) && (backToKw cpos (keywordEach [] X.env)).all (fun x => x.1.isSome)
      && decide (([e] : List Expr).length + ([] : List Keyword).length + (if ([] : List Keyword).isEmpty then 0 else 1) < 30)) = true := by rfl)
    (hline : (apos.endLine == cpos.line) = true := by rfl) (hs : starEach [e] X.env = (false, eval e X.env) :: starEach [] X.env := by rfl) (hplain : (backTo cpos (starEach [] X.env)).any (·.1) = false := by rfl)
    (hsw : swapsWith (.Call (.Attribute (.Name x p) "append" apos) [e] [] cpos) none pos.line X.env = pure false := by rfl) :
    DS C X (.Expr (.Call (.Attribute (.Name x p) "append" apos) [e] [] cpos) pos) (tDrop (tBM K "list" rAppend (tVar k) (tCons te tNil))) (sApp k me) := by
  subst hK
  refine ⟨ps_expr (pe_bm PySem.F.plainAttrs_list PySem.F.slot_list_append PySem.F.type_list_append mt_append (pe_var hN hv hd hcd) (pa_cons he.pe pa_nil hs) hbase hfew hline hs hplain) hsw, fun H0 O0 O H σ ρ o s h D g => ?_⟩
  unfold sApp at h
  cases em : me ρ with
  | none => rw [em] at h; cases h
  | some r =>
    rw [em] at h
    obtain ⟨d, fl⟩ := r
    replace h : (if fl = .bor then none else match ρ[k]? with
      | some (some (.lst ds, true)) => if ds.length < lim then some (Out.nx (ρ.set k (some (.lst (ds ++ [d]), true)))) else none
      | _ => none) = some o := h
    split at h
    · cases h
    · rename_i hnb
      split at h
      · rename_i ds ek
        split at h
        · rename_i hl
          cases h
          obtain ⟨a, xs, ds', h0, h1, h2, h3, h4, h5⟩ := s.ow k _ ek
          cases h0
          refine ⟨_, h1, .inl ⟨rfl, _, .inl (.inl h4)⟩, ?_⟩
          refine he.sd _ _ _ _ _ _ s.toSV em _ fun v H1 e1 r1 => ?_
          have h5' := h5.mono (hid_mono (O := O) e1)
          refine ⟨a, xs, v, rfl, rfl, e1 _ _ h4, lim_lt (by rw [h5.length]; exact hl), ?_⟩
          refine g _ _ _ ((s.mono e1).write ek h1 h2 h3 (h5'.append (.cons (r1.sharedF s.dom hnb) .nil))) ?_
          rw [hid_upd h2]
          exact hid_mono e1
        · cases h
      · cases h
def sRev (k : Nat) : S := fun ρ => match ρ[k]? with
  | some (some (.lst ds, true)) => some (.nx (ρ.set k (some (.lst ds.reverse, true))))
  | _ => none
theorem ds_reverse (k : Nat) {x : Str} {p apos cpos : Pos} (hK : X.K = K) (hN : X.N[k]? = some x := by rfl) (hv : Vis X.env.scope x := by first | exact Or.inl rfl | exact Or.inr (Or.inl rfl) | exact Or.inr (Or.inr rfl))
    (hd : (x == ("__debug__" : Str)) = false := by decide) (hcd : (x == ("__classdict__" : Str)) = false := by decide)
    (hbase : attributeBase (.Name x p) "reverse" X.env (eval (.Name x p) X.env) = eval (.Name x p) X.env := by rfl) (hline : (apos.endLine == cpos.line) = true := by rfl)
    (hsw : swapsWith (.Call (.Attribute (.Name x p) "reverse" apos) [] [] cpos) none pos.line X.env = pure false := by rfl) :
    DS C X (.Expr (.Call (.Attribute (.Name x p) "reverse" apos) [] [] cpos) pos) (tDrop (tBM0 K "list" rReverse (tVar k))) (sRev k) := by
  subst hK
  refine ⟨ps_expr (pe_bm0 PySem.F.plainAttrs_list PySem.F.slot_list_reverse PySem.F.type_list_reverse mt_reverse (pe_var hN hv hd hcd) hbase hline) hsw, fun H0 O0 O H σ ρ o s h D g => ?_⟩
  unfold sRev at h
  split at h
  · rename_i ds ek
    cases h
    obtain ⟨a, xs, ds', h0, h1, h2, h3, h4, h5⟩ := s.ow k _ ek
    cases h0
    refine ⟨_, h1, .inl ⟨rfl, _, .inl (.inl h4)⟩, a, xs, rfl, rfl, h4, ?_⟩
    refine g _ _ _ (s.write ek h1 h2 h3 h5.reverse) ?_
    rw [hid_upd h2]
    exact Evl.Ex.refl _
  · cases h

/-! ### if, for, while, return -/
def sIf (c : B) (m n : S) : S := fun ρ => (c ρ).bind fun k => if k then m ρ else n ρ
theorem ds_if {c : Expr} {a b : List Stmt} {tc : TT} {mc : B} (hc : DT C X c tc mc) (ha : DSs C X a t m) (hb : DSs C X b u n) : DS C X (.If c a b pos) (tIfS tc t u) (sIf mc m n) := by
  refine ⟨ps_if hc.pt ha.ps hb.ps, fun H0 O0 O H σ ρ o s h D g => ?_⟩
  unfold sIf at h
  cases ec : mc ρ with
  | none => rw [ec] at h; cases h
  | some k =>
    rw [ec] at h
    refine hc.sd _ _ _ _ _ _ s.toSV ec _ fun H1 e1 => ?_
    cases k with
    | true => exact ha.sd _ _ _ _ _ _ _ (s.mono e1) h D (g.back (hid_mono e1))
    | false => exact hb.sd _ _ _ _ _ _ _ (s.mono e1) h D (g.back (hid_mono e1))
/-- a slot's list is shared from now on -/
def frz1 (i : Nat) (ρ : E) : E := match ρ[i]? with
  | some (some (d, true)) => ρ.set i (some (d, false))
  | _ => ρ
theorem SS.frz1 {i : Nat} (s : SS C H0 O0 O H σ ρ) : ∃ O', SS C H0 O0 O' H σ (frz1 i ρ) ∧ Ex (hid H O) (hid H O') := by
  unfold Dt.frz1
  split
  · rename_i d ei
    obtain ⟨a, xs, ds, rfl, h1, h2, h3, h4, h5⟩ := s.ow i _ ei
    have hil : i < ρ.length := (List.getElem?_eq_some_iff.mp ei).1
    have sub : ∀ b ∈ O.filter (fun b => decide (b ≠ a)), b ∈ O := fun b hb => (List.mem_filter.mp hb).1
    have ex : Ex (hid H O) (hid H (O.filter fun b => decide (b ≠ a))) := hid_sub sub
    refine ⟨O.filter fun b => decide (b ≠ a), ⟨⟨by rw [List.length_set, s.len], fun b hb => s.dom b (sub b hb), fun b hb => List.mem_filter.mpr ⟨s.sub b hb, decide_eq_true fun z => h3 (z ▸ hb)⟩, fun b hb h0 => s.ll b (sub b hb) h0, fun j d h => ?_, fun j d h => ?_, fun j k d d' b q1 q2 q3 q4 => ?_⟩, s.base, fun b hb => s.new b (sub b hb)⟩, ex⟩
    · by_cases hj : i = j
      · subst hj
        rw [List.getElem?_set_self hil] at h
        cases h
        refine ⟨_, h1, .lst ?_ (h5.mono ex)⟩
        rw [hid_out (by simp)]; exact h4
      · rw [List.getElem?_set_ne hj] at h
        obtain ⟨v, q1, q2⟩ := s.sh j d h
        exact ⟨v, q1, q2.mono ex⟩
    · by_cases hj : i = j
      · subst hj; rw [List.getElem?_set_self hil] at h; cases h
      · rw [List.getElem?_set_ne hj] at h
        obtain ⟨b, ys, fs, q1, q2, q3, q4, q5, q6⟩ := s.ow j d h
        exact ⟨b, ys, fs, q1, q2, List.mem_filter.mpr ⟨q3, decide_eq_true fun z => hj (s.inj i j _ _ a ei h h1 (z ▸ q2))⟩, q4, q5, q6.mono ex⟩
    · have key : ∀ {j : Nat} {d : D}, (ρ.set i (some (.lst ds, false)))[j]? = some (some (d, true)) → ρ[j]? = some (some (d, true)) := fun {j d} h => by
        by_cases hj : i = j
        · subst hj; rw [List.getElem?_set_self hil] at h; cases h
        · rwa [List.getElem?_set_ne hj] at h
      exact s.inj j k d d' b (key q1) (key q2) q3 q4
  · exact ⟨O, s, Evl.Ex.refl _⟩
/-- any statement, a slot's list shared ahead of it -/
def sFrz (i : Nat) (m : S) : S := fun ρ => m (frz1 i ρ)
theorem ds_frz (i : Nat) (h : DS C X st t m) : DS C X st t (sFrz i m) := by
  refine ⟨h.ps, fun H0 O0 O H σ ρ o s e D g => ?_⟩
  obtain ⟨O', s', x⟩ := s.frz1 (i := i)
  exact h.sd _ _ _ _ _ _ _ s' e D (g.back x)
def forGo (g : D → E → Option E) (m : S) : List D → E → Option Out
  | [], ρ => some (.nx ρ)
  | d :: ds, ρ => (g d ρ).bind fun ρ1 => (m ρ1).bind fun o => match o with | .nx ρ2 => forGo g m ds ρ2 | .rt d f => some (.rt d f)
def sFor (mi : I) (g : D → E → Option E) (m : S) : S := fun ρ => (mi ρ).bind fun ds => forGo g m ds ρ
theorem snd_for {wi : TI} {g : TG} {tb : TS} {mi : I} {mg : D → E → Option E} (hi : ∀ O0 O H σ ρ ds, SV C O0 O H σ ρ → mi ρ = some ds → ∀ R : It → Hp → Prop, (∀ J H1, Ex H H1 → ItOk C false O H1 J ds → R J H1) → wi σ H R)
    (hg : ∀ H0 O0 O H σ ρ ρ' d v, SS C H0 O0 O H σ ρ → Rep C (hid H O) v d → mg d ρ = some ρ' → ∀ Q : L2.St → Hp → Prop, (∀ σ' H', SS C H0 O0 O H' σ' ρ' → Ex (hid H O) (hid H' O) → Q σ' H') → g v σ H Q)
    (hb : SndS C tb m) : SndS C (tFor wi g tb) (sFor mi mg m) := by
  intro H0 O0 O H σ ρ o s h D gq
  unfold sFor at h
  cases ei : mi ρ with
  | none => rw [ei] at h; cases h
  | some ds =>
    rw [ei] at h
    replace h : forGo mg m ds ρ = some o := h
    refine hi _ _ _ _ _ _ s.toSV ei _ fun J H1 e1 ok => ?_
    refine ⟨fun i m' σ' Hc => m' = ds.length - i ∧ i ≤ ds.length ∧ ∃ O2 ρ2, SS C H0 O0 O2 Hc σ' ρ2 ∧ Ex (hid H1 O) (hid Hc O2) ∧ forGo mg m (ds.drop i) ρ2 = some o, ⟨_, rfl, Nat.zero_le _, O, ρ, s.mono e1, Evl.Ex.refl _, by simpa using h⟩, ?_⟩
    rintro i m' σ' Hc ⟨rfl, hle, O2, ρ2, s2, x2, hgo⟩
    obtain ⟨okg, oks⟩ := ok Hc O2 (fun z => by cases z) x2 s2.dom i
    by_cases hlt : i < ds.length
    · have hd : ds[i]? = some ds[i] := List.getElem?_eq_getElem hlt
      obtain ⟨go, yl⟩ := okg _ hd
      rw [List.drop_eq_getElem_cons hlt] at hgo
      unfold forGo at hgo
      refine .inr ⟨go, fun σ3 H3 => ∃ O3 ρ3, SS C H0 O0 O3 H3 σ3 ρ3 ∧ Ex (hid H1 O) (hid H3 O3) ∧ forGo mg m (ds.drop (i + 1)) ρ3 = some o, fun σ3 H3 hn => ⟨_, by omega, rfl, hlt, hn⟩, fun x H3 y => ?_⟩
      obtain ⟨e3, rx⟩ := yl x H3 y
      cases eg : mg ds[i] ρ2 with
      | none => rw [eg] at hgo; cases hgo
      | some ρ3 =>
        rw [eg] at hgo
        replace hgo : ((m ρ3).bind fun o => match o with | .nx ρ2 => forGo mg m (ds.drop (i + 1)) ρ2 | .rt d f => some (.rt d f)) = some o := hgo
        refine hg _ _ _ _ _ _ _ _ _ (s2.mono e3) rx eg _ fun σ4 H4 s4 x4 => ?_
        have x14 : Ex (hid H1 O) (hid H4 O2) := (x2.trans (hid_mono e3)).trans x4
        cases em : m ρ3 with
        | none => rw [em] at hgo; cases hgo
        | some o1 =>
          rw [em] at hgo
          refine hb _ _ _ _ _ _ _ s4 em _ ?_
          cases o1 with
          | nx ρ5 => exact fun O5 H5 σ5 s5 x5 => ⟨O5, ρ5, s5, x14.trans x5, hgo⟩
          | rt d f => cases hgo; exact gq
    · have hie : ds.length ≤ i := by omega
      rw [List.drop_eq_nil_of_le hie] at hgo
      cases hgo
      exact .inl ⟨oks hie, gq _ _ _ s2 ((hid_mono e1).trans x2)⟩
theorem ds_for {tg iter : Expr} {body : List Stmt} {wi : TI} {g : TG} {tb : TS} {mi : I} {mg : D → E → Option E} (hp : PassesOwn (model X.prog X.w) X.A X.env X.xe) (hc : X.calm = true) (hi : DI C false X tg iter wi mi) (hg : DGS C X tg g mg) (hb : DSs C X body tb m)
    (hs : ∀ x, foldedSetIterable iter X.env x = pure x := by intro _; rfl) : DS C X (.For tg iter body [] pos) (tFor wi g tb) (sFor mi mg m) := ⟨ps_for hp hc hi.pi hg.pg hb.ps hs, snd_for hi.sd hg.sd hb.sd⟩
def whGo (c : B) (m : S) : Nat → E → Option Out
  | 0, _ => none
  | n + 1, ρ => (c ρ).bind fun k => if k then (m ρ).bind fun o => match o with | .nx ρ2 => whGo c m n ρ2 | .rt d f => some (.rt d f) else some (.nx ρ)
def sWh (n : Nat) (c : B) (m : S) : S := whGo c m n
theorem ds_while (N : Nat) {c : Expr} {body : List Stmt} {tc : TT} {mc : B} (hp : PassesOwn (model X.prog X.w) X.A X.env X.xe) (hc : DT C X c tc mc) (hb : DSs C X body t m) : DS C X (.While c body [] pos) (tWhile tc t) (sWh N mc m) := by
  refine ⟨ps_while hp hc.pt hb.ps, fun H0 O0 O H σ ρ o s h D g => ?_⟩
  refine ⟨fun k σ' Hc => ∃ O2 ρ2, SS C H0 O0 O2 Hc σ' ρ2 ∧ Ex (hid H O) (hid Hc O2) ∧ whGo mc m k ρ2 = some o, ⟨N, O, ρ, s, Evl.Ex.refl _, h⟩, ?_⟩
  rintro k σ' Hc ⟨O2, ρ2, s2, x2, hgo⟩
  cases k with
  | zero => cases hgo
  | succ k =>
    unfold whGo at hgo
    cases ec : mc ρ2 with
    | none => rw [ec] at hgo; cases hgo
    | some b =>
      rw [ec] at hgo
      refine hc.sd _ _ _ _ _ _ s2.toSV ec _ fun H3 e3 => ?_
      have s3 := s2.mono e3
      have x3 := x2.trans (hid_mono e3)
      cases b with
      | false => cases hgo; exact g _ _ _ s3 x3
      | true =>
        rw [if_pos rfl]
        replace hgo : ((m ρ2).bind fun o => match o with | .nx ρ2 => whGo mc m k ρ2 | .rt d f => some (.rt d f)) = some o := hgo
        refine ⟨fun σ5 H5 => ∃ O2 ρ2, SS C H0 O0 O2 H5 σ5 ρ2 ∧ Ex (hid H O) (hid H5 O2) ∧ whGo mc m k ρ2 = some o, fun σ5 H5 hn => ⟨k, Nat.lt_succ_self _, hn⟩, ?_⟩
        cases em : m ρ2 with
        | none => rw [em] at hgo; cases hgo
        | some o1 =>
          rw [em] at hgo
          refine hb.sd _ _ _ _ _ _ _ s3 em _ ?_
          cases o1 with
          | nx ρ5 => exact fun O5 H5 σ5 s5 x5 => ⟨O5, ρ5, s5, x3.trans x5, hgo⟩
          | rt d f => cases hgo; exact g
def sRet (m : M) : S := fun ρ => (m ρ).map fun r => .rt r.1 (decide (r.2 ≠ .pure))
theorem ds_ret (he : DE C X e te me) : DS C X (.Return (some e) pos) (tRet te) (sRet me) := by
  refine ⟨ps_ret he.pe, fun H0 O0 O H σ ρ o s h D g => ?_⟩
  unfold sRet at h
  cases em : me ρ with
  | none => rw [em] at h; cases h
  | some r =>
    rw [em] at h; cases h
    obtain ⟨d, fl⟩ := r
    refine he.sd _ _ _ _ _ _ s.toSV em _ fun v H1 e1 r1 => ?_
    refine g v H1 (s.base.trans e1) ?_
    cases r1 with
    | pure w => exact w.mono (hid_sub s.sub)
    | fresh h1 h2 h3 => exact ⟨_, _, _, rfl, rfl, Evl.fresh_back s.base h1, h2, h3.mono (hid_sub fun b hb => by
        rcases List.mem_cons.mp hb with rfl | hb
        · exact List.mem_cons_self
        · exact List.mem_cons_of_mem _ (s.sub b hb))⟩
    | bor h1 h2 h3 h4 => exact ⟨_, _, _, rfl, rfl, s.new _ h1 h2, h3, h4.mono (hid_sub fun b hb => by
        rcases List.mem_cons.mp hb with rfl | hb
        · exact h1
        · exact s.sub b hb)⟩

/-! ### defs -/
abbrev FD := List D → Option (D × Bool)
def spD (C : Cfg) (n : Nat) (F : FD) : Sp := fun vs H Q _ => ∃ O ds d fr, vs.length = n ∧ (∀ a ∈ O, H a ≠ none) ∧ Reps C (hid H O) vs ds ∧ F ds = some (d, fr) ∧ ∀ v H', Ex H H' → RetOk C O H H' v d fr → Q v H'
def runF (n : Nat) (m : S) : FD := fun ds => match m (ds.map (fun d => some (d, false)) ++ List.replicate (n - ds.length) none) with
  | some (.rt d fr) => some (d, fr)
  | some (.nx _) => some (.non, false)
  | none => none
theorem fn_ok {P : Program} {w : World} {mg : Str → Option Value} {base : Heap} {x qual : Str} {st : Stmt} {f : Addr} {fd : FuncData} {N ps : List Str} {k : Nat} {m : S} (F : Fun K x qual st f fd) (S : FnScope N ps (defScope st))
    (hb : ∀ (cdv : Value) (A : Around) (outer : List Env) (s : Shared) (H : Hp) (E : XK), Room k (A.deeper (envOfC qual (defScope st) s.heap.objs.size f cdv)) →
      ∃ t, DSs C (cxOf CX0 P w K mg base N qual (defScope st) f cdv A outer s H E).nox (defBody st) t m) : FnOk P w K mg base CX0 (k + 1) f fd ps (spD C ps.length (runF N.length m)) := by
  refine F.ok S (fun vs H Q E h => by obtain ⟨_, _, _, _, h, _⟩ := h; exact h) fun cdv A outer s H vs Q E hr h => ?_
  obtain ⟨O, ds, d, fr, hl, dm, r, hF, q⟩ := h
  obtain ⟨t, T⟩ := hb cdv A outer s H E hr
  refine ⟨t, T.ps, ?_⟩
  have rl := r.length
  have s0 : SS C H O O H (L2.start N vs) (ds.map (fun d => some (d, false)) ++ List.replicate (N.length - ds.length) none) := by
    unfold L2.start
    have own : ∀ (i : Nat) (d : D), (ds.map (fun d => some (d, false)) ++ List.replicate (N.length - ds.length) none)[i]? = some (some (d, true)) → False := fun i d h => by
      by_cases hi : i < ds.length
      · rw [List.getElem?_append_left (by simpa using hi), List.getElem?_map] at h
        cases e : ds[i]? with
        | none => rw [e] at h; cases h
        | some d' => rw [e] at h; cases h
      · rw [List.getElem?_append_right (by simpa using hi), List.getElem?_replicate] at h
        split at h <;> cases h
    refine ⟨⟨by simp [rl], dm, fun _ h => h, fun a h h0 => absurd h h0, fun i d h => ?_, fun i d h => (own i d h).elim, fun i j d e a h => (own i d h).elim⟩, Evl.Ex.refl _, fun a h h0 => absurd h h0⟩
    by_cases hi : i < ds.length
    · rw [List.getElem?_append_left (by simpa using hi), List.getElem?_map] at h
      cases e : ds[i]? with
      | none => rw [e] at h; cases h
      | some d' =>
        rw [e] at h; cases h
        obtain ⟨v, e1, r1⟩ := r.get e
        exact ⟨v, by rw [List.getElem?_append_left (by simpa [rl] using hi), List.getElem?_map, e1]; rfl, r1⟩
    · rw [List.getElem?_append_right (by simpa using hi), List.getElem?_replicate] at h
      split at h <;> cases h
  unfold runF at hF
  split at hF
  · rename_i d' fr' em
    cases hF
    exact T.sd _ _ _ _ _ _ _ s0 em _ q
  · rename_i ρ' em
    cases hF
    refine T.sd _ _ _ _ _ _ _ s0 em _ fun O' H' σ' s' _ => ?_
    exact q _ _ s'.base .non
  · cases hF

/-! ### calls of defs -/
def postC (rs : List (D × Fl)) (p : D × Bool) : Option (D × Fl) :=
  if nb rs then some (p.1, if p.2 then .fresh else .pure)
  else if p.2 then (match p.1 with | .lst ds => if imms ds then some (.lst ds, .fresh) else none | _ => none)
  else if imm p.1 then some (p.1, .pure) else none
def mCall (F : FD) (n : As) : M := fun ρ => (n ρ).bind fun rs => (F (rs.map (·.1))).bind (postC rs)
theorem ret_res {F : FD} {rs : List (D × Fl)} {r : D × Fl} {vs : List V} {N : Nat} {Q : VK} (s : Co O0 O H1) (s0 : Co O0 O H) (e : Ex H H1) (hl : rs.length = N) (h : (F (rs.map (·.1))).bind (postC rs) = some r) (rr : Ress C O0 O H H1 vs rs) (q : ∀ v H', Ex H1 H' → Res C O0 O H H' v r → Q v H') {E : XK} : spD C N F vs H1 Q E := by
  cases eF : F (rs.map (·.1)) with
  | none => rw [eF] at h; cases h
  | some p =>
    rw [eF] at h
    obtain ⟨d, fr⟩ := p
    replace h : postC rs (d, fr) = some r := h
    unfold postC at h
    have hvl : vs.length = N := by rw [rr.length, hl]
    split at h
    · rename_i hnb
      cases h
      refine ⟨O, _, d, fr, hvl, s.dom, rr.shared s0.dom hnb, eF, fun v H2 e2 ro => q v H2 e2 ?_⟩
      unfold RetOk at ro
      cases fr with
      | true =>
        obtain ⟨a, xs, ds, rfl, rfl, h1, h2, h3⟩ := ro
        exact .fresh (Evl.fresh_back e h1) h2 h3
      | false => exact .pure ro
    · refine ⟨O0, _, d, fr, hvl, fun a ha => s.dom a (s.sub a ha), rr.anys s0.sub s0.dom, eF, fun v H2 e2 ro => q v H2 e2 ?_⟩
      have ll2 := (s.mono e2).ll
      unfold RetOk at ro
      cases fr with
      | true =>
        obtain ⟨a, xs, ds, rfl, rfl, h1, h2, h3⟩ := ro
        replace h : (if imms ds then some ((.lst ds, .fresh) : D × Fl) else none) = some r := h
        split at h
        · rename_i hi
          cases h
          refine .fresh (Evl.fresh_back e h1) h2 (Reps.ofImm (fun b hb hb0 => ?_) hi h3)
          rcases List.mem_cons.mp hb with rfl | hb
          · exact ⟨xs, h2⟩
          · exact ll2 b hb fun z => hb0 (List.mem_cons_of_mem _ z)
        · cases h
      | false =>
        replace h : (if imm d then some ((d, .pure) : D × Fl) else none) = some r := h
        split at h
        · rename_i hi
          cases h
          exact .pure (Rep.ofImm ll2 hi ro)
        · cases h
theorem bind2 {α β : Type} {o : Option α} {f : α → Option β} {b : β} (h : o.bind f = some b) : ∃ a, o = some a ∧ f a = some b := by
  cases o with
  | none => cases h
  | some a => exact ⟨a, rfl, h⟩
theorem snd_call {F : FD} {ta : TA} {na : As} {N : Nat} (ha : SndA C ta na) (hl : ∀ ρ rs, na ρ = some rs → rs.length = N) : Snd C (tCall (spD C N F) [] E0 ta) (mCall F na) := by
  intro O0 O H σ ρ r s h Q q
  obtain ⟨rs, en, h⟩ := bind2 h
  refine ha _ _ _ _ _ _ s en _ fun vs H1 e1 rr => ?_
  rw [List.append_nil]
  exact ret_res (s.mono e1).co s.co e1 (hl _ _ en) h rr fun v H2 e2 r2 => q v H2 (e1.trans e2) r2
theorem aNil_len : ∀ ρ rs, aNil ρ = some rs → rs.length = 0 := fun _ _ h => by cases h; rfl
theorem aCons_len {m : M} {n : As} {N : Nat} (h : ∀ ρ rs, n ρ = some rs → rs.length = N) : ∀ ρ rs, aCons m n ρ = some rs → rs.length = N + 1 := fun ρ rs hh => by
  unfold aCons at hh
  obtain ⟨r, _, hh⟩ := bind2 hh
  cases e : n ρ with
  | none => rw [e] at hh; cases hh
  | some rs' => rw [e] at hh; cases hh; simp [h _ _ e]
theorem de_call {k N : Nat} {f : Addr} {fd : FuncData} {ps : List Str} {F : FD} {x : Str} {p pos : Pos} {e : Expr} {es : List Expr} {ta : TA} {na : As} (G : FnOk X.prog X.w X.K X.mg X.base CX0 k f fd ps (spD C N F)) (hr : Room k X.A) (hm : X.mg x = some (.ref f)) (hk : PySem.W.keepIn X.K (.ref f) = true) (hb : Binds X.K fd ps [])
    (ha : DA C X (e :: es) ta na) (hl : ∀ ρ rs, na ρ = some rs → rs.length = N) (hg : Gl X x := by rfl) (hdb : (x == ("__debug__" : Str)) = false := by decide) (he : starEach (e :: es) X.env = (false, eval e X.env) :: starEach es X.env := by rfl) (hpl : (backTo pos (starEach es X.env)).any (·.1) = false := by rfl) :
    DE C X (.Call (.Name x p) (e :: es) [] pos) (tCall (spD C N F) [] E0 ta) (mCall F na) := ⟨pe_call G hr hg hm hk hb .nil pass0 ha.pa hdb he hpl, snd_call ha.sd hl⟩
end
end Dt

set_option maxRecDepth 100000
namespace Dt
open PySem PySem.Spec PyProof.Rows L2
open Evl (Ex)

structure DefAt (K : PySem.W.Frag) (mg : Str → Option Value) (nm : Str) (st : Stmt) (ps : List Str) where
  f : Addr
  fd : FuncData
  F : Fun K nm nm st f fd
  b : Binds K fd ps []
  m : mg nm = some (.ref f)
structure MethAt (K : PySem.W.Frag) (C : Addr) (nm qual : Str) (st : Stmt) (ps : List Str) where
  f : Addr
  fd : FuncData
  F : Fun K nm qual st f fd
  b : Binds K fd ps []
  me : Meth K C nm f
section
variable {C : Cfg} {K : PySem.W.Frag} {X : Cx} {O0 O O' : List Addr} {H0 H H' H1 : Hp} {σ : L2.St} {ρ : E}
variable {e o : Expr} {es : List Expr} {te to : TE} {me mo : M} {ta : TA} {na : As} {pos apos p : Pos}
def sExpr (m : M) : S := fun ρ => (m ρ).map fun _ => .nx ρ
theorem ds_expr (he : DE C X e te me) (hs : swapsWith e none pos.line X.env = pure false := by rfl) : DS C X (.Expr e pos) (tDrop te) (sExpr me) := by
  refine ⟨ps_expr he.pe hs, fun H0 O0 O H σ ρ o s h D g => ?_⟩
  unfold sExpr at h
  cases em : me ρ with
  | none => rw [em] at h; cases h
  | some r =>
    rw [em] at h; cases h
    exact he.sd _ _ _ _ _ _ s.toSV em _ fun v H1 e1 r1 => g _ _ _ (s.mono e1) (hid_mono e1)
def sRetN : S := fun ρ => some (.rt .non false)
theorem ds_retN : DS C X (.Return none pos) tRetN sRetN := ⟨ps_retN, fun H0 O0 O H σ ρ o s h D g => by cases h; exact g _ _ s.base (by unfold RetOk; simp; exact .non)⟩
/-- a, b = x, y -/
theorem ds_par (i j : Nat) {x y : Str} {a b : Expr} {px py pt : Pos} {kt k2 pt2} (hc : X.calm = true) (hN : X.N.Nodup) (ha : DA C X [a, b] ta na) (hi : X.N[i]? = some x := by rfl) (hj : X.N[j]? = some y := by rfl) (hij : i ≠ j := by decide)
    (hx : X.env.scope.names.lookup x = some .local := by rfl) (hy : X.env.scope.names.lookup y = some .local := by rfl)
    (hw : swappedStores [.Tuple [.Name x px, .Name y py] kt pt] (.Tuple [a, b] k2 pt2) X.env = pure (some [x, y]) := by rfl)
    (hs : swapsWithSole [.Tuple [.Name x px, .Name y py] kt pt] (.Tuple [a, b] k2 pt2) pos.line X.env = pure false := by rfl) :
    DS C X (.Assign [.Tuple [.Name x px, .Name y py] kt pt] (.Tuple [a, b] k2 pt2) pos) (tPar i j ta) (sPar i j na) := by
  refine ⟨ps_par hc hN hi hj hij hx hy ha.pa hw hs, fun H0 O0 O H σ ρ o s h D g => ?_⟩
  unfold sPar at h
  obtain ⟨rs, en, h⟩ := bind2 h
  split at h
  · rename_i d e'
    cases h
    refine ha.sd _ _ _ _ _ _ s.toSV en _ fun vs H1 e1 r1 => ?_
    obtain ⟨v, v', rfl, h1, h2⟩ := ress2 r1
    cases h1 with
    | pure w1 => cases h2 with
      | pure w2 => exact ⟨v, v', rfl, g _ _ _ (((s.mono e1).setP w1).setP w2) (hid_mono e1)⟩
  · cases h

/-! ### methods of a network -/
def isNetD : D → Bool | .net _ _ => true | _ => false
def mMeth (F : FD) (mo : M) (n : As) : M := fun ρ => (mo ρ).bind fun r => if isNetD r.1 then (n ρ).bind fun rs => (F (r.1 :: rs.map (·.1))).bind (postC (r :: rs)) else none
theorem de_meth {k N : Nat} {nm qual : Str} {st : Stmt} {ps : List Str} {F : FD} (NC : NetC X.K C.net) (A : MethAt X.K C.net nm qual st ps) (G : FnOk X.prog X.w X.K X.mg X.base CX0 k A.f A.fd ps (spD C (N + 1) F)) (hr : Room k X.A)
    (hlk : ∀ (w : Int) (x : V), List.lookup nm [(("wires" : Str), V.int w), (("comparers" : Str), x)] = none) (ho : DE C X o to mo) (ha : DA C X (e :: es) ta na) (hl : ∀ ρ rs, na ρ = some rs → rs.length = N) {pl : Sem Bool}
    (hst : starEach (e :: es) X.env = (false, eval e X.env) :: starEach es X.env := by rfl) (hpl : (backTo pos (starEach es X.env)).any (·.1) = false := by rfl)
    (ht : eval (.Call (.Attribute o nm apos) (e :: es) [] pos) X.env = (do
      let ov ← eval o X.env
      standAt apos.atName
      let (f, first) ← holding [ov] (getMethod ov nm pl)
      callWith pos f first (backTo pos (starEach (e :: es) X.env)) (backToKw pos (keywordEach [] X.env))) := by rfl) :
    DE C X (.Call (.Attribute o nm apos) (e :: es) [] pos) (tMeth C.net nm (spD C (N + 1) F) [] E0 to ta) (mMeth F mo na) := by
  refine ⟨pe_meth ho.pe NC.cl A.me G hr A.b .nil pass0 ha.pa hst hpl ht, fun O0 O H σ ρ r s h Q q => ?_⟩
  unfold mMeth at h
  obtain ⟨ro, eo, h⟩ := bind2 h
  split at h
  · rename_i hd
    obtain ⟨rs, en, h⟩ := bind2 h
    obtain ⟨d, fl⟩ := ro
    obtain ⟨w, c, rfl⟩ : ∃ w c, d = .net w c := by
      cases d <;> first | exact ⟨_, _, rfl⟩ | (simp [isNetD] at hd)
    refine ho.sd _ _ _ _ _ _ s eo _ fun v H1 e1 r1 => ?_
    obtain ⟨a, dx, x, rfl, h2, h3⟩ := r1.netE
    refine ⟨a, dx, _, rfl, h2, hlk w x, ?_⟩
    refine ha.sd _ _ _ _ _ _ (s.mono e1) en _ fun vs H2 e2 rr => ?_
    rw [List.append_nil]
    exact ret_res (rs := (.net w c, fl) :: rs) ((s.mono e1).mono e2).co s.co (e1.trans e2) (by simp [hl _ _ en]) h (.cons (r1.mono e2) (rr.back e1)) fun v H3 e3 r3 => q v H3 ((e1.trans e2).trans e3) r3
  · cases h

theorem look_run (w : Int) (x : V) : List.lookup ("run" : Str) [(("wires" : Str), V.int w), (("comparers" : Str), x)] = none := by
  have e1 : (("run" : Str) == ("wires" : Str)) = false := by decide +kernel
  have e2 : (("run" : Str) == ("comparers" : Str)) = false := by decide +kernel
  rw [List.lookup_cons, e1, List.lookup_cons, e2]; rfl

/-! ### networks made -/
def pairsOf : D → Option (List D)
  | .lst ds => some ds
  | .tup ds => some ds
  | _ => none
def okPair (w : Int) : D → Bool
  | .tup [.int i, .int j] => decide (0 ≤ i ∧ i < w ∧ 0 ≤ j ∧ j < w ∧ i ≠ j)
  | _ => false
def okPairs (w : Int) (ds : List D) : Bool := ds.all (okPair w)
theorem okPair_imm {w : Int} {d : D} (h : okPair w d = true) : imm d = true := by
  unfold okPair at h
  split at h
  · simp [imm, imms]
  · cases h
theorem okPairs_imms {w : Int} : ∀ {ds : List D}, okPairs w ds = true → imms ds = true
  | [], _ => by simp [imms]
  | d :: ds, h => by
    simp only [okPairs, List.all_cons, Bool.and_eq_true] at h
    simp only [imms, Bool.and_eq_true]
    exact ⟨okPair_imm h.1, okPairs_imms h.2⟩
def fNet : FN := fun rs => match rs with
  | [(.int w, _), (c, _)] => (pairsOf c).bind fun ds => if 1 ≤ w ∧ okPairs w ds = true ∧ ds.length ≤ lim then some (.net w (.tup ds), .pure) else none
  | _ => none
def spInit (C : Cfg) : Sp := fun vs H Q _ => ∃ O x dx cv w c ds, vs = [.ref x, .int w, cv] ∧ H x = some (.ins C.net dx []) ∧ x ∉ O ∧ (∀ a ∈ O, H a ≠ none) ∧ Rep C (hid H O) cv c ∧ pairsOf c = some ds ∧ 1 ≤ w ∧ okPairs w ds = true ∧ ds.length ≤ lim ∧
  ∀ H', (∀ b o, b ≠ x → H b = some o → H' b = some o) → Rep C (hid H' O) (.ref x) (.net w (.tup ds)) → Q .non H'
theorem snd_net (ha : SndA C ta na) : Snd C (tMake C.net (spInit C) [] E0 ta) (mFn fNet na) := by
  intro O0 O H σ ρ r s h Q q
  unfold mFn at h
  obtain ⟨rs, en, h⟩ := bind2 h
  unfold fNet at h
  split at h
  · rename_i w _ c _
    obtain ⟨ds, ec, h⟩ := bind2 h
    split at h
    · rename_i hk
      cases h
      refine ha _ _ _ _ _ _ s en _ fun vs H1 e1 rr => ?_
      intro x dx hx hdx hne
      obtain ⟨v1, v2, rfl, r1, r2⟩ := ress2 rr
      cases r1.intE
      have s1 := s.mono e1
      have xO : x ∉ O0 := fun z => s1.dom x (s.sub x z) hx
      have dO : dx ∉ O0 := fun z => s1.dom dx (s.sub dx z) hdx
      have e2 : Ex H1 (upd (upd H1 dx (.own x)) x (.ins C.net dx [])) := (Evl.Ex.new hdx).trans (Evl.Ex.new (by rw [upd_ne (Ne.symm hne)]; exact hx))
      refine ⟨O0, x, dx, v2, w, c, ds, rfl, upd_same, xO, fun a ha => (s1.mono e2).dom a (s.sub a ha), (r2.any s.sub s.dom).mono (hid_mono e2), ec, hk.1, hk.2.1, hk.2.2, fun H2 k rep => ⟨rfl, ?_⟩⟩
      have e12 : Ex H1 H2 := fun b o hb => by
        have hbx : b ≠ x := fun z => by rw [z, hx] at hb; cases hb
        exact k b o hbx (e2 b o hb)
      refine q _ _ (e1.trans e12) (.pure (Rep.ofImm (s1.mono e12).ll ?_ rep))
      simp only [imm]
      exact okPairs_imms hk.2.1
    · cases h
  · cases h
theorem de_net {k : Nat} {st : Stmt} {ps : List Str} {a b : Expr} {A : MethAt X.K C.net "__init__" "Network.__init__" st ps} (M : Mk X.K C.net A.f) (G : FnOk X.prog X.w X.K X.mg X.base CX0 k A.f A.fd ps (spInit C)) (hr : Room (k + 1) X.A) (hm : X.mg "Network" = some (.ref C.net)) (ha : DA C X [a, b] ta na)
    (hg : Gl X "Network" := by rfl) (he : starEach [a, b] X.env = (false, eval a X.env) :: starEach [b] X.env := by rfl) (hpl : (backTo pos (starEach [b] X.env)).any (·.1) = false := by rfl) :
    DE C X (.Call (.Name "Network" p) [a, b] [] pos) (tMake C.net (spInit C) [] E0 ta) (mFn fNet na) := ⟨pe_make M G hr hg hm A.b .nil pass0 ha.pa (by decide) he hpl, snd_net ha.sd⟩


/-! data of tuples and scalars alone -/
mutual
def okT : D → Bool
  | .tup ds => okTs ds | .lst _ => false | .net _ _ => false | .frz _ => false | _ => true
def okTs : List D → Bool
  | [] => true
  | d :: ds => okT d && okTs ds
end
theorem okT_pairs {w : Int} {ds : List D} (h : okPairs w ds = true) : okT (.tup ds) = true := by
  simp only [okT]
  induction ds with
  | nil => simp [okTs]
  | cons d ds ih =>
    simp only [okPairs, List.all_cons, Bool.and_eq_true] at h
    simp only [okTs, Bool.and_eq_true]
    refine ⟨?_, ih h.2⟩
    have h1 := h.1
    unfold okPair at h1
    split at h1
    · simp [okT, okTs]
    · cases h1
mutual
theorem Rep.noNet {C : Cfg} {H : Hp} {O : List Addr} {x B dx : Addr} {fs gs : List (Str × V)} (hx : H x = some (.ins B dx fs)) : ∀ {d : D} {v : V}, okT d = true → Rep C (hid H O) v d → Rep C (hid (upd H x (.ins B dx gs)) O) v d
  | .non, _, _, h => by cases h; exact .non
  | .bl _, _, _, h => by cases h; exact .bl _
  | .int _, _, _, h => by cases h; exact .int _
  | .str _, _, _, h => by cases h; exact .str _
  | .opq _, _, _, h => by cases h; exact .opq _
  | .lst _, _, i, _ => by simp [okT] at i
  | .net _ _, _, i, _ => by simp [okT] at i
  | .frz _, _, i, _ => by simp [okT] at i
  | .tup ds, _, i, h => by
    cases h with
    | @tup a xs _ h1 h2 =>
      refine .tup (xs := xs) ?_ (Reps.noNet hx (by simpa [okT] using i) h2)
      have hO : a ∉ O := fun z => by unfold hid at h1; rw [if_pos z] at h1; cases h1
      rw [hid_out hO] at h1 ⊢
      rw [upd_ne]
      · exact h1
      · intro z; rw [z, hx] at h1; cases h1
theorem Reps.noNet {C : Cfg} {H : Hp} {O : List Addr} {x B dx : Addr} {fs gs : List (Str × V)} (hx : H x = some (.ins B dx fs)) : ∀ {ds : List D} {vs : List V}, okTs ds = true → Reps C (hid H O) vs ds → Reps C (hid (upd H x (.ins B dx gs)) O) vs ds
  | [], _, _, h => by cases h; exact .nil
  | d :: ds, _, i, h => by
    simp only [okTs, Bool.and_eq_true] at i
    cases h with | cons h1 h2 => exact .cons (Rep.noNet hx i.1 h1) (Reps.noNet hx i.2 h2)
end

theorem putF2 {w : Int} {x : V} : putF ("comparers" : Str) x (putF ("wires" : Str) (V.int w) []) = [(("wires" : Str), V.int w), (("comparers" : Str), x)] := by
  have e : ¬ (("wires" : Str) = ("comparers" : Str)) := by decide +kernel
  show (if ("wires" : Str) = ("comparers" : Str) then _ else _) = _
  rw [if_neg e]; rfl
/-- __init__: its first three statements by the data layer, then the two stores -/
theorem init_ok {P : Program} {w : World} {mg : Str → Option Value} {base : Heap} {st s1 s2 s3 s4 s5 : Stmt} {f : Addr} {fd : FuncData} {N : List Str} {k : Nat} {m1 m2 m3 : S} (F : Fun K "__init__" "Network.__init__" st f fd) (NC : NetC K C.net) (Sc : FnScope N ["self", "wires", "comparers"] (defScope st))
    (hbody : defBody st = [s1, s2, s3, s4, s5]) (hN : N.length = 6)
    (hb : ∀ (cdv : Value) (A : Around) (outer : List Env) (s : Shared) (H : Hp) (E : XK), Room k (A.deeper (envOfC "Network.__init__" (defScope st) s.heap.objs.size f cdv)) →
      ∃ t1 t2 t3, DS C (cxOf CX0 P w K mg base N "Network.__init__" (defScope st) f cdv A outer s H E).nox s1 t1 m1 ∧ DS C (cxOf CX0 P w K mg base N "Network.__init__" (defScope st) f cdv A outer s H E).nox s2 t2 m2 ∧
        DS C (cxOf CX0 P w K mg base N "Network.__init__" (defScope st) f cdv A outer s H E).nox s3 t3 m3 ∧ PS (cxOf CX0 P w K mg base N "Network.__init__" (defScope st) f cdv A outer s H E).nox s4 (sFld K (tVar 0) (tVar 1) "wires") ∧
        PS (cxOf CX0 P w K mg base N "Network.__init__" (defScope st) f cdv A outer s H E).nox s5 (sFld K (tVar 0) (tVar 3) "comparers"))
    (hm : ∀ x w c ds, pairsOf c = some ds → 1 ≤ w → okPairs w ds = true → ds.length ≤ lim → ∃ ρ', sSeq m1 (sSeq m2 m3) [some (.opq x, false), some (.int w, false), some (c, false), none, none, none] = some (.nx ρ') ∧
      ρ'[0]? = some (some (.opq x, false)) ∧ ρ'[1]? = some (some (.int w, false)) ∧ ρ'[3]? = some (some (.tup ds, false))) :
    FnOk P w K mg base CX0 (k + 1) f fd ["self", "wires", "comparers"] (spInit C) := by
  refine F.ok Sc (fun vs H Q E h => ?_) fun cdv A outer s H vs Q E hr h => ?_
  · obtain ⟨O, x, dx, cv, w, c, ds, rfl, _⟩ := h; rfl
  · obtain ⟨O, x, dx, cv, w, c, ds, rfl, hx, xO, dm, rc, ec, hw, hok, hl, q⟩ := h
    obtain ⟨t1, t2, t3, d1, d2, d3, p4, p5⟩ := hb cdv A outer s H E hr
    rw [hbody]
    refine ⟨_, pss_cons d1.ps (pss_cons d2.ps (pss_cons d3.ps (pss_cons p4 (pss_one p5)))), ?_⟩
    obtain ⟨ρ', em, g0, g1, g3⟩ := hm x w c ds ec hw hok hl
    have s0 : SS C H O O H (L2.start N [.ref x, .int w, cv]) [some (.opq x, false), some (.int w, false), some (c, false), none, none, none] := by
      have est : L2.start N [.ref x, .int w, cv] = [some (.ref x), some (.int w), some cv, none, none, none] := by
        unfold L2.start; rw [hN]; rfl
      rw [est]
      refine ⟨⟨rfl, dm, fun _ h => h, fun a h h0 => absurd h h0, fun i d h => ?_, fun i d h => ?_, fun i j d e a h => ?_⟩, Evl.Ex.refl _, fun a h h0 => absurd h h0⟩
      · match i, h with
        | 0, h => cases h; exact ⟨_, rfl, .opq _⟩
        | 1, h => cases h; exact ⟨_, rfl, .int _⟩
        | 2, h => cases h; exact ⟨_, rfl, rc⟩
        | 3, h => cases h
        | 4, h => cases h
        | 5, h => cases h
        | n + 6, h => simp at h
      · match i, h with
        | 0, h => cases h
        | 1, h => cases h
        | 2, h => cases h
        | 3, h => cases h
        | 4, h => cases h
        | 5, h => cases h
        | n + 6, h => simp at h
      · match i, h with
        | 0, h => cases h
        | 1, h => cases h
        | 2, h => cases h
        | 3, h => cases h
        | 4, h => cases h
        | 5, h => cases h
        | n + 6, h => simp at h
    have key : SndS C (tSeq t1 (tSeq t2 t3)) (sSeq m1 (sSeq m2 m3)) := (dss_cons d1 (dss_cons d2 (dss_one d3))).sd
    have fin := key _ _ _ _ _ _ _ s0 em { nx := fun σ' H' => tSeq (sFld K (tVar 0) (tVar 1) "wires") (sFld K (tVar 0) (tVar 3) "comparers") { nx := fun _ H' => Q .non H', rt := Q } σ' H', rt := Q } fun O' H' σ' s' ex => by
      obtain ⟨v0, q0, r0⟩ := s'.sh 0 _ g0
      obtain ⟨v1, q1, r1⟩ := s'.sh 1 _ g1
      obtain ⟨v3, q3, r3⟩ := s'.sh 3 _ g3
      cases r0; cases r1
      have hx' : H' x = some (.ins C.net dx []) := s'.base _ _ hx
      refine ⟨_, q1, _, q0, x, C.net, dx, [], rfl, hx', NC.cl, NC.nw, by decide, ?_⟩
      refine ⟨_, q3, _, q0, x, C.net, dx, _, rfl, upd_same, NC.cl, NC.nc, by show 1 < 1000; omega, ?_⟩
      rw [upd_upd, putF2]
      have r3' : Rep C (hid H' O) v3 (.tup ds) := r3.mono (hid_sub s'.sub)
      refine q _ (fun b o hb h => by rw [upd_ne hb]; exact s'.base _ _ h) (.net (dx := dx) (x := v3) (by rw [hid_out xO, upd_same]) ?_)
      have imt : ∀ {v : V} {d : D}, okT d = true → Rep C (hid H' O) v d → Rep C (hid (upd H' x (.ins C.net dx [(("wires" : Str), V.int w), (("comparers" : Str), v3)])) O) v d := fun {v d} ho r => r.noNet hx' ho
      exact imt (okT_pairs hok) r3'
    exact fin
end
end Dt

set_option maxRecDepth 100000
namespace Dt
open PySem PySem.Spec PyProof.Rows L2
open Evl (Ex)
theorem kit_self {K : PySem.W.Frag} {C : Addr} : PySem.W.kitOne K (.ref C) (.ref C) = some true := by
  unfold PySem.W.kitOne
  rw [if_pos (by simp)]
def spLaw (K : PySem.W.Frag) : Sp := fun vs H Q _ => ∃ (a : Addr) (ns : List Int), vs = [.ref a] ∧ FrzL K H a ns ∧ ns.length ≤ 63 ∧ ∀ H', Q (.bl true) H'
theorem frz_of {K : PySem.W.Frag} {H : Hp} {a : Addr} {ns : List Int} (o : Only H) (h : SqL K H a (ns.map V.int)) : FrzL K H a ns := by
  rcases h with (h | ⟨ob, h⟩) | h
  · rcases o a with q | ⟨ob, xs, q⟩
    · rw [q] at h; cases h
    · rw [q] at h; cases h
  · exact .inl ⟨ob, h⟩
  · exact .inr fun H' => .inr h
theorem law_imp {P : Program} {w : World} {K : PySem.W.Frag} {mg : Str → Option Value} {base : Heap} {k : Nat} {f Cn : Addr} {fd : FuncData} {ps : List Str} {F : FD} (G : FnOk P w K mg base CX0 k f fd ps (spD ⟨Cn, K⟩ 1 F)) (h : ∀ ns : List Int, ns.length ≤ 63 → F [.frz ns] = some (.bl true, false)) : FnOk P w K mg base CX0 k f fd ps (spLaw K) :=
  G.imp fun vs H Q E ⟨a, ns, e, fr, hl, q⟩ => ⟨[], [.frz ns], .bl true, false, by rw [e]; rfl, (fun a h => by cases h), by rw [e]; exact .cons (.frz (fr.imp (fun ⟨o, z⟩ => ⟨o, by rw [hid_out (by simp)]; exact z⟩) id)) .nil, h ns hl, fun v H' _ r => by
    unfold RetOk at r
    have r' : Rep ⟨Cn, K⟩ (hid H' []) v (.bl true) := r
    cases r'
    exact q H'⟩
section
variable {K : PySem.W.Frag} {h : Heap} {mg : Str → Option Value} {nm qual : Str} {st : Stmt} {ps : List Str} {f C : Addr} {oc : Value} {od an : Option Addr} {osl : Array (Option Value)} {kV doc pm cdv ct : Value}
def defAt (X : K.In h) (G : h.Ns mainGlobals mg) (a : PySem.W.nsIn K mainGlobals nm = some (some (.ref f))) (l : K.lookup f = some ⟨oc, od, .func (PySem.W.fnOf nm nm (defArgs st) (defBody st) (defScope st) .none kV doc pm an cdv ct), osl⟩)
    (c : PySem.W.codeIn K cdv nm = true) (k : PySem.W.keepIn K (.ref f) = true)
    (hb : ∀ (kV doc pm : Value) (an : Option Addr) (cdv ct : Value) (us : List Value), us.length = ps.length → bindArgs (PySem.W.fnOf nm nm (defArgs st) (defBody st) (defScope st) .none kV doc pm an cdv ct) ⟨us, []⟩ = pure (ps.zip us)) : DefAt K mg nm st ps :=
  ⟨f, _, fun_mk l c k, (fun_mk l c k).binds hb, PySem.W.mg_of X G a⟩
def methAt (a : PySem.W.findIn K (.ref C) nm = some (some (.ref f))) (i : PySem.W.isFn K (.ref f) = true) (l : K.lookup f = some ⟨oc, od, .func (PySem.W.fnOf nm qual (defArgs st) (defBody st) (defScope st) .none kV doc pm an cdv ct), osl⟩)
    (c : PySem.W.codeIn K cdv qual = true) (k : PySem.W.keepIn K (.ref f) = true)
    (hb : ∀ (kV doc pm : Value) (an : Option Addr) (cdv ct : Value) (us : List Value), us.length = ps.length → bindArgs (PySem.W.fnOf nm qual (defArgs st) (defBody st) (defScope st) .none kV doc pm an cdv ct) ⟨us, []⟩ = pure (ps.zip us)) : MethAt K C nm qual st ps :=
  ⟨f, _, fun_mk l c k, (fun_mk l c k).binds hb, ⟨a, i, k⟩⟩
end
end Dt

set_option maxRecDepth 100000
namespace Dt
open PySem PySem.Spec PyProof.Rows L2
open Evl (Ex)
section
variable {C : Cfg} {K : PySem.W.Frag} {X : Cx} {O0 O O' : List Addr} {H0 H H' H1 : Hp} {σ : L2.St} {ρ : E}
variable {a b c e o : Expr} {es : List Expr} {ta tb te to : TE} {ma mb me mo : M} {t : TA} {n : As} {p p2 pos pos2 apos : Pos}

/-! ### a property -/
structure PropAt (K : PySem.W.Frag) (qual : Str) (st : Stmt) (ps : List Str) where
  f : Addr
  fd : FuncData
  F : Fun K "is_standard" qual st f fd
  b : Binds K fd ps []
def propAt {qual : Str} {st : Stmt} {ps : List Str} {f : Addr} {oc : Value} {od an : Option Addr} {osl : Array (Option Value)} {kV doc pm cdv ct : Value} (l : K.lookup f = some ⟨oc, od, .func (PySem.W.fnOf "is_standard" qual (defArgs st) (defBody st) (defScope st) .none kV doc pm an cdv ct), osl⟩)
    (c : PySem.W.codeIn K cdv qual = true) (k : PySem.W.keepIn K (.ref f) = true)
    (hb : ∀ (kV doc pm : Value) (an : Option Addr) (cdv ct : Value) (us : List Value), us.length = ps.length → bindArgs (PySem.W.fnOf "is_standard" qual (defArgs st) (defBody st) (defScope st) .none kV doc pm an cdv ct) ⟨us, []⟩ = pure (ps.zip us)) : PropAt K qual st ps :=
  ⟨f, _, fun_mk l c k, (fun_mk l c k).binds hb⟩
def mProp (F : FD) (mo : M) : M := fun ρ => (mo ρ).bind fun r => if isNetD r.1 then (F [r.1]).bind (postC [r]) else none
theorem de_prop {k : Nat} {nm : Str} {qual : Str} {st : Stmt} {ps : List Str} {F : FD} {A : PropAt X.K qual st ps} (NC : NetC X.K C.net) (hp : ∃ q, PropOf X.K C.net nm q A.f) (G : FnOk X.prog X.w X.K X.mg X.base CX0 k A.f A.fd ps (spD C 1 F)) (hr : Room (k + 1) X.A) (ho : DE C X o to mo)
    (hab : attributeBase o nm X.env (eval o X.env) = eval o X.env := by rfl) : DE C X (.Attribute o nm pos) (tProp C.net (spD C 1 F) [] E0 to) (mProp F mo) := by
  obtain ⟨q, hp⟩ := hp
  refine ⟨pe_prop ho.pe NC.cl hp G hr A.b .nil pass0 hab, fun O0 O H σ ρ r s h Q q => ?_⟩
  unfold mProp at h
  obtain ⟨ro, eo, h⟩ := bind2 h
  split at h
  · rename_i hd
    obtain ⟨d, fl⟩ := ro
    obtain ⟨w, c, rfl⟩ : ∃ w c, d = .net w c := by
      cases d <;> first | exact ⟨_, _, rfl⟩ | (simp [isNetD] at hd)
    refine ho.sd _ _ _ _ _ _ s eo _ fun v H1 e1 r1 => ?_
    obtain ⟨a, dx, x, rfl, h2, h3⟩ := r1.netE
    exact ⟨a, dx, _, rfl, h2, ret_res (rs := [(.net w c, fl)]) (s.mono e1).co s.co e1 rfl h (.cons r1 .nil) fun v H3 e3 r3 => q v H3 (e1.trans e3) r3⟩
  · cases h

/-! ### two networks equal -/
def eqRel (C : Cfg) (F : FD) (a b : Addr) (H : Hp) : Prop := ∃ d e, Rep C H (.ref a) d ∧ Rep C H (.ref b) e ∧ F [d, e] = some (.bl true, false)
def fNetEq (F : FD) : F2 := fun x y => if isNetD x.1 && isNetD y.1 then match F [x.1, y.1] with | some (.bl true, false) => some (.bl true, .pure) | _ => none else none
theorem de_netEq {k : Nat} {st : Stmt} {ps : List Str} {F : FD} {A : MethAt X.K C.net "__eq__" "Network.__eq__" st ps} (G : FnOk X.prog X.w X.K X.mg X.base CX0 k A.f A.fd ps (spD C 2 F)) (hr : Room k X.A) (ha : DE C X a ta ma) (hb : DE C X b tb mb) :
    DE C X (.Compare a [.Eq] [b] pos) (tOp (rEqG (DIns C.net (eqRel C F))) ta tb) (mOp (fNetEq F) ma mb) := by
  have G2 : FnOk X.prog X.w X.K X.mg X.base CX0 k A.f A.fd ps (spEq (eqRel C F)) := G.imp fun vs H Q E ⟨a, b, hv, ⟨d, e, r1, r2, hF⟩, q⟩ => by
    subst hv
    refine ⟨[], [d, e], .bl true, false, rfl, (fun a h => by cases h), .cons ?_ (.cons ?_ .nil), hF, fun v H' x r => ?_⟩
    · exact r1.mono fun a o h => by rw [hid_out (by simp)]; exact h
    · exact r2.mono fun a o h => by rw [hid_out (by simp)]; exact h
    · have r' : Rep C (hid H' []) v (.bl true) := r
      cases r'
      exact q H' x
  refine de_cmp (op_eqG (rcG_ins G2 A.me.at_ A.me.fn A.b pass0) hr) ?_ ha hb
  intro O0 O H H' x y rx ry rz c c' e r1 r2 hf Q q
  unfold fNetEq at hf
  split at hf
  · rename_i hk
    simp only [Bool.and_eq_true] at hk
    obtain ⟨d1, f1⟩ := rx
    obtain ⟨d2, f2⟩ := ry
    obtain ⟨w1, c1, rfl⟩ : ∃ w c, d1 = .net w c := by
      cases d1 <;> first | exact ⟨_, _, rfl⟩ | (simp [isNetD] at hk)
    obtain ⟨w2, c2, rfl⟩ : ∃ w c, d2 = .net w c := by
      cases d2 <;> first | exact ⟨_, _, rfl⟩ | (simp [isNetD] at hk)
    split at hf
    · rename_i hF
      cases hf
      have g1 := r1.full
      have g2 := r2.full
      obtain ⟨a, dx, xx, rfl, h1, _⟩ := r1.netE
      obtain ⟨b, dy, yy, rfl, h2, _⟩ := r2.netE
      exact ⟨⟨a, b, dx, dy, _, _, rfl, rfl, h1, h2, _, _, g1, g2, hF⟩, fun H'' x => q _ _ x .bl⟩
    · cases hf
  · cases hf

/-! ### list(range(n)), tuple(range(n)) -/
def fRng1 (f : List D → D × Fl) (m : M) : M := fun ρ => (m ρ).bind fun r => match r.1 with
  | .int j => if 0 ≤ j ∧ j ≤ 100000 then some (f (rngD 0 j.toNat)) else none
  | _ => none
theorem rgV_reps {j : Int} : Reps C H (rgV 0 j) (rngD 0 j.toNat) := by
  unfold rgV rngD
  rw [Int.sub_zero]
  generalize List.range j.toNat = l
  induction l with
  | nil => exact .nil
  | cons x l ih => exact .cons (.int _) ih
theorem de_listRg (hc : X.calm = true) (hg : Gl X "list") (hm : X.mg "list" = none) (hg2 : Gl X "range") (hm2 : X.mg "range" = none) (ha : DE C X a ta ma) (na : starEach [a] X.env = (false, eval a X.env) :: starEach [] X.env := by rfl)
    (na2 : starEach [.Call (.Name "range" p2) [a] [] pos2] X.env = (false, eval (.Call (.Name "range" p2) [a] [] pos2) X.env) :: starEach [] X.env := by rfl) :
    DE C X (.Call (.Name "list" p) [.Call (.Name "range" p2) [a] [] pos2] [] pos) (tLstRg (tRg1 ta)) (fRng1 (fun ds => (.lst ds, .fresh)) ma) := by
  refine ⟨pe_listRg hc hg hm (prg_1 hg2 hm2 ha.pe na) na2, fun O0 O H σ ρ r s h Q q => ?_⟩
  unfold fRng1 at h
  obtain ⟨rx, ea, h⟩ := bind2 h
  obtain ⟨d, fl⟩ := rx
  cases d with
  | int j =>
    replace h : (if 0 ≤ j ∧ j ≤ 100000 then some ((D.lst (rngD 0 j.toNat), Fl.fresh)) else none) = some r := h
    split at h
    · rename_i hk
      cases h
      refine ha.sd _ _ _ _ _ _ s ea _ fun v H1 e1 r1 => ⟨j, r1.intE, RgOk.of_le (by omega) (by omega) (by omega) (by omega), fun q' hq => ?_⟩
      exact q _ _ (e1.trans (Evl.Ex.new hq)) (res_lst e1 hq rgV_reps)
    · cases h
  | _ => cases h
theorem de_tupRg (hc : X.calm = true) (hg : Gl X "tuple") (hm : X.mg "tuple" = none) (hg2 : Gl X "range") (hm2 : X.mg "range" = none) (ha : DE C X a ta ma) (na : starEach [a] X.env = (false, eval a X.env) :: starEach [] X.env := by rfl)
    (na2 : starEach [.Call (.Name "range" p2) [a] [] pos2] X.env = (false, eval (.Call (.Name "range" p2) [a] [] pos2) X.env) :: starEach [] X.env := by rfl) :
    DE C X (.Call (.Name "tuple" p) [.Call (.Name "range" p2) [a] [] pos2] [] pos) (tTupRg (tRg1 ta)) (fRng1 (fun ds => (.tup ds, .pure)) ma) := by
  refine ⟨pe_tupRg hc hg hm (prg_1 hg2 hm2 ha.pe na) na2, fun O0 O H σ ρ r s h Q q => ?_⟩
  unfold fRng1 at h
  obtain ⟨rx, ea, h⟩ := bind2 h
  obtain ⟨d, fl⟩ := rx
  cases d with
  | int j =>
    replace h : (if 0 ≤ j ∧ j ≤ 100000 then some ((D.tup (rngD 0 j.toNat), Fl.pure)) else none) = some r := h
    split at h
    · rename_i hk
      cases h
      refine ha.sd _ _ _ _ _ _ s ea _ fun v H1 e1 r1 => ⟨j, r1.intE, RgOk.of_le (by omega) (by omega) (by omega) (by omega), fun q' hq => ?_⟩
      exact q _ _ (e1.trans (Evl.Ex.new hq)) (res_tup (s.mono e1).co hq rgV_reps)
    · cases h
  | _ => cases h

/-! ### reversed(..), walked -/
theorem itv_ok {w : Bool} {a : Addr} {xs : List V} {ds : List D} (h1 : H1 a = some (.lst xs)) (hw : w = false → a ∉ O) (h2 : Reps C (hid H1 O) xs ds) : ItOk C w O H1 (Itv K a xs.length) ds.reverse := by
  intro H2 O2 hx e dm i
  have hl := h2.length
  have ha : H2 a = some (.lst xs) := by
    cases w with
    | true => exact hx rfl a _ h1
    | false => exact hid_ex _ _ (e a _ (by rw [hid_out (hw rfl)]; exact h1))
  refine ⟨fun d hd => ?_, fun hle => ?_⟩
  · have hi : i < ds.length := by have := (List.getElem?_eq_some_iff.mp hd).1; simpa using this
    have e2 : ds[xs.length - 1 - i]? = some d := by
      rw [List.getElem?_reverse hi] at hd
      rw [hl]; exact hd
    obtain ⟨v, e1, r⟩ := h2.get e2
    refine ⟨⟨by omega, xs, v, .inl (.inl ha), e1⟩, fun x H3 y => ?_⟩
    obtain ⟨rfl, y⟩ := y
    have := y xs (.inl (.inl ha))
    rw [e1] at this; cases this
    exact ⟨Evl.Ex.refl _, r.mono e⟩
  · have hx2 : xs.length ≤ i := by rw [List.length_reverse] at hle; omega
    exact hx2
theorem itvT_ok {w : Bool} {a : Addr} {xs : List V} {ds : List D} (h1 : hid H1 O a = some (.tup xs)) (h2 : Reps C (hid H1 O) xs ds) : ItOk C w O H1 (RT.ItvT K a xs.length) ds.reverse := by
  intro H2 O2 hx e dm i
  have hl := h2.length
  have ha : H2 a = some (.tup xs) := hid_ex _ _ (e a _ h1)
  refine ⟨fun d hd => ?_, fun hle => ?_⟩
  · have hi : i < ds.length := by have := (List.getElem?_eq_some_iff.mp hd).1; simpa using this
    have e2 : ds[xs.length - 1 - i]? = some d := by
      rw [List.getElem?_reverse hi] at hd
      rw [hl]; exact hd
    obtain ⟨v, e1, r⟩ := h2.get e2
    refine ⟨⟨by omega, xs, v, .inl (.inl ha), e1⟩, fun x H3 y => ?_⟩
    obtain ⟨rfl, y⟩ := y
    have := y xs (.inl (.inl ha))
    rw [e1] at this; cases this
    exact ⟨Evl.Ex.refl _, r.mono e⟩
  · have hx2 : xs.length ≤ i := by rw [List.length_reverse] at hle; omega
    exact hx2
def iRv (w : Bool) (m : M) : I := fun ρ => (iS w m ρ).map List.reverse
theorem di_rev {w : Bool} {tg : Expr} (hK : X.K = K) (hg : Gl X "reversed") (hm : X.mg "reversed" = none) (ha : DE C X a ta ma) (hs : starEach [a] X.env = (false, eval a X.env) :: starEach [] X.env := by rfl) : DI C w X tg (.Call (.Name "reversed" p) [a] [] pos) (RT.iRevA K ta) (iRv w ma) := by
  subst hK
  refine ⟨RT.pi_revA hg hm ha.pe hs, fun O0 O H σ ρ ds s h R q => ?_⟩
  unfold iRv iS at h
  cases ea : ma ρ with
  | none => rw [ea] at h; cases h
  | some rx =>
    rw [ea] at h
    obtain ⟨d, fl⟩ := rx
    refine ha.sd _ _ _ _ _ _ s ea _ fun v H1 e r => ?_
    cases d with
    | lst ds' =>
      replace h : ((if w || decide (fl ≠ .bor) then some ds' else none).map List.reverse) = some ds := h
      split at h
      · rename_i hk
        cases h
        obtain ⟨a, xs, rfl, h1, h2⟩ := r.lstE
        refine ⟨a, xs, rfl, .inl ⟨.inl (.inl h1), q _ _ e (itv_ok h1 (fun hw => ?_) h2)⟩⟩
        subst hw
        simp only [Bool.false_or, decide_eq_true_eq] at hk
        cases r with
        | pure w => cases w with
          | lst g _ => intro z; unfold hid at g; rw [if_pos z] at g; cases g
        | fresh g _ _ => exact fun z => s.dom _ z g
        | bor _ _ _ _ => exact absurd rfl hk
      · cases h
    | tup ds' =>
      cases h
      obtain ⟨a, xs, rfl, h1, h2⟩ := r.tupH
      exact ⟨a, xs, rfl, .inr ⟨.inl (.inl (hid_ex _ _ h1)), q _ _ e (itvT_ok h1 h2)⟩⟩
    | _ => cases h

/-! ### sorted of a tuple -/
def rSortT (K : PySem.W.Frag) : List V → Hp → VK → Prop := fun vs H Q => ∃ (a : Addr) (ns : List Int), vs = [V.ref a] ∧ SqT K H a (ns.map V.int) ∧
  ∀ (ns' : List Int) (p : Addr), ns'.Perm ns → ns'.Pairwise (· ≤ ·) → H p = none → Q (.ref p) (upd H p (.lst (ns'.map V.int)))
end
end Dt

set_option maxRecDepth 100000
namespace Dt
open PySem PySem.Spec PyProof.Rows L2
open Evl (Ex)
section
variable {prog : Program} {w : World} {A : Around} {E : Value → Shared → Prop} {s : Shared}
/-- sorted(t), t a tuple: the new list stands behind all that was -/
theorem sorted_ordT {l : Addr} {vs : List Value} {ltv : Value → Value → Bool} {Q : Value → Shared → Prop} (O : SrtO.Swo ltv) (hl : IsTup s.heap l vs.toArray) (hz : vs.length ≤ sizeLine)
    (hS : ∀ (h₁ : Heap) (a : Addr), 2 ≤ vs.length → SrtO.SortableO prog w A.in1.in1 { s with heap := h₁ } a vs ltv)
    (h : ∀ (out : List Value) (h1 h2 : Heap), SrtO.Srtd ltv out → SrtO.Stb ltv out vs → (∀ b o, s.heap.get? b = some o → h1.get? b = some o) → (∀ b o, h1.get? b = some o → h2.get? b = some o) → (∃ ep, h2.get? h1.objs.size = some (seqObj "list" out.toArray ep)) → Q (.ref h1.objs.size) { s with heap := h2 }) :
    wpAny (model prog w) A (call (.builtin "sorted") [.ref l]) Q E s := by
  obtain ⟨o, ho, hc, n, hd⟩ := hl
  have goal : wpAny (model prog w) A.in1 (Builtin.«sorted» ⟨[.ref l], []⟩) (fun f s' => ∃ v, f = .done (.ret v) ∧ Q v s') E s := by
    unfold Builtin.«sorted»
    refine wpAny_bind (m := checkCount "sorted" 1 1 _) (wpAny_pure (wpAny_bind (wpAny_collect_seq l (.inr rfl) ho hc hd (fun h1 k1 => wpAny_bind (wpAny_newList ?_ hz)) (by rw [List.size_toArray]; exact hz))))
    have hoL : (h1.push (seqObj "list" vs.toArray 0)).get? h1.objs.size = some (seqObj "list" vs.toArray 0) := Heap.get?_push_size _ rfl
    have fin : ∀ out : List Value, SrtO.Srtd ltv out → SrtO.Stb ltv out vs → Q (.ref h1.objs.size) { s with heap := sortedHeap (h1.push (seqObj "list" vs.toArray 0)) h1.objs.size vs out.toArray } := fun out hs hb =>
      h out h1 _ hs hb k1 (fun b o q => by
        have q2 := Heap.get?_push_of_some (seqObj "list" vs.toArray 0) q
        rw [sortedHeap_old (Nat.ne_of_lt (Heap.lt_size q)) (Heap.lt_size q2)]; exact q2) (sortedHeap_at (vs := vs) (out := out.toArray) hoL)
    exact wpAny_bind (wpAny_holding (wpAny_call_entry slot_list_sort ⟨_, hoL, rfl⟩ entry_list_sort (SrtO.list_sort_ord O hoL hz (fun h2 => hS _ _ h2) (fun out hs hb => ⟨_, rfl, wpAny_pure ⟨_, rfl, fin out hs hb⟩⟩)) (args_list_sort _)))
  exact Calls.call_function_entry kind_sorted plain_sorted entry_sorted (args_sorted1 _) goal
end
section
variable {C : Cfg} {K : PySem.W.Frag} {X : Cx} {O0 O O' : List Addr} {H0 H H' H1 : Hp} {σ : L2.St} {ρ : E}
variable {a b c e o : Expr} {es : List Expr} {ta tb te to : TE} {ma mb me mo : M} {t : TA} {n : As} {p p2 pos pos2 apos : Pos}
theorem cr_sortT : CallR X (.builtin "sorted") (rSortT X.K) := by
  intro pins s σ H vs us Q I r h
  obtain ⟨a, ns, rfl, hs, q⟩ := h
  obtain ⟨its, rv, hl, hz⟩ := I.tuple hs
  have hi := rv.ints
  rw [Vals.ref1 r]
  refine sorted_ordT SrtO.swo_int hl (by rw [← rv.length]; exact hz) (fun _ _ h2 => SrtO.ints_sortable hi h2) fun out h1 h2 o1 o2 k1 k2 he => ?_
  obtain ⟨w1, w2, w3⟩ := SrtO.ints_out hi o1 o2
  obtain ⟨ep, he⟩ := he
  have I1 := I.kept (t' := s.toks) k1
  have hlen : ((out.map SrtO.iv).map V.int).length ≤ sizeLine := by
    rw [List.length_map] at hz ⊢
    rw [w2.length_eq]; exact hz
  exact ⟨.ref h1.objs.size, upd H h1.objs.size (.lst ((out.map SrtO.iv).map V.int)), I1.laid (o := .lst ((out.map SrtO.iv).map V.int)) (t' := s.toks) k2 (Nat.le_refl _) ⟨hlen, out, ep, vals_of_ints w1, he⟩, rfl, q _ _ w2 w3 (I1.hok.fresh (Nat.le_refl _))⟩
/-! sorted of ints, on plain data -/
def getIs : List D → Option (List Int)
  | [] => some []
  | .int i :: ds => (getIs ds).map (i :: ·)
  | _ :: _ => none
theorem getIs_int : ∀ ns : List Int, getIs (ns.map .int) = some ns
  | [] => rfl
  | n :: ns => by simp [getIs, getIs_int ns]
theorem getIs_reps : ∀ {ds : List D} {xs : List V} {ns : List Int}, Reps C H xs ds → getIs ds = some ns → xs = ns.map V.int
  | [], xs, ns, h, e => by cases e; cases h; rfl
  | d :: ds, xs, ns, h, e => by
    cases h with
    | cons h1 h2 =>
      cases d with
      | int i =>
        cases h1
        unfold getIs at e
        cases er : getIs ds with
        | none => rw [er] at e; cases e
        | some ms =>
          rw [er] at e; cases e
          exact congrArg (V.int i :: ·) (getIs_reps h2 er)
      | _ => cases e
theorem reps_intsD : ∀ ns : List Int, Reps C H (ns.map V.int) (ns.map .int)
  | [] => .nil
  | n :: ns => .cons (.int n) (reps_intsD ns)
/-- ascending, by insertion -/
def insI (x : Int) : List Int → List Int
  | [] => [x]
  | y :: ys => if x ≤ y then x :: y :: ys else y :: insI x ys
def srtI : List Int → List Int
  | [] => []
  | x :: xs => insI x (srtI xs)
theorem insI_perm (x : Int) : ∀ ys, (insI x ys).Perm (x :: ys)
  | [] => .refl _
  | y :: ys => by
    unfold insI
    by_cases h : x ≤ y
    · rw [if_pos h]
    · rw [if_neg h]; exact ((insI_perm x ys).cons y).trans (.swap x y ys)
theorem srtI_perm : ∀ xs, (srtI xs).Perm xs
  | [] => .refl _
  | x :: xs => (insI_perm x _).trans ((srtI_perm xs).cons x)
theorem insI_srt (x : Int) : ∀ ys : List Int, ys.Pairwise (· ≤ ·) → (insI x ys).Pairwise (· ≤ ·)
  | [], _ => List.pairwise_singleton _ _
  | y :: ys, h => by
    have h1 := List.pairwise_cons.mp h
    unfold insI
    by_cases hx : x ≤ y
    · rw [if_pos hx]
      exact List.pairwise_cons.mpr ⟨fun z hz => by
        rcases List.mem_cons.mp hz with rfl | hz
        · exact hx
        · exact Int.le_trans hx (h1.1 z hz), h⟩
    · rw [if_neg hx]
      exact List.pairwise_cons.mpr ⟨fun z hz => by
        rcases List.mem_cons.mp ((insI_perm x ys).mem_iff.mp hz) with rfl | hz
        · omega
        · exact h1.1 z hz, insI_srt x ys h1.2⟩
theorem srtI_srt : ∀ xs : List Int, (srtI xs).Pairwise (· ≤ ·)
  | [] => .nil
  | x :: xs => insI_srt x _ (srtI_srt xs)
theorem srt_unique : ∀ {xs ys : List Int}, xs.Perm ys → xs.Pairwise (· ≤ ·) → ys.Pairwise (· ≤ ·) → xs = ys
  | [], ys, p, _, _ => (List.nil_perm.mp p).symm
  | x :: xs, [], p, _, _ => by have := p.length_eq; simp at this
  | x :: xs, y :: ys, p, h1, h2 => by
    have e1 := List.pairwise_cons.mp h1
    have e2 := List.pairwise_cons.mp h2
    have hxy : x = y := by
      have a : x ∈ y :: ys := p.mem_iff.mp List.mem_cons_self
      have b : y ∈ x :: xs := p.mem_iff.mpr List.mem_cons_self
      rcases List.mem_cons.mp a with h | h
      · exact h
      · rcases List.mem_cons.mp b with h' | h'
        · exact h'.symm
        · exact Int.le_antisymm (e1.1 y h') (e2.1 x h)
    subst hxy
    rw [srt_unique (List.perm_cons x |>.mp p) e1.2 e2.2]
def fSorted : FN := fun rs => match rs with
  | [(.lst ds, _)] => (getIs ds).map fun ns => (.lst ((srtI ns).map .int), .fresh)
  | [(.tup ds, _)] => (getIs ds).map fun ns => (.lst ((srtI ns).map .int), .fresh)
  | _ => none
theorem vc_sorted (hC : C.K = K) : VC C (fun xs H Q => rSortedI K xs H Q ∨ rSortT K xs H Q) fSorted := by
  intro O0 O H H' vs rs rz c c' e r1 hf Q q
  unfold fSorted at hf
  split at hf
  · rename_i ds _
    cases en : getIs ds with
    | none => rw [en] at hf; cases hf
    | some ns =>
      rw [en] at hf; cases hf
      obtain ⟨v, rfl, h⟩ := ress1 r1
      obtain ⟨p, xs, rfl, h1, h2⟩ := h.lstE
      have k1 := getIs_reps h2 en
      subst k1
      refine .inl ⟨p, ns, rfl, .inl (.inl h1), fun ns' l hp hs hl => ?_⟩
      have := srt_unique (hp.trans (srtI_perm ns).symm) hs (srtI_srt ns)
      subst this
      exact q _ _ (Evl.Ex.new hl) (res_lst e hl (reps_intsD _))
  · rename_i ds _
    cases en : getIs ds with
    | none => rw [en] at hf; cases hf
    | some ns =>
      rw [en] at hf; cases hf
      obtain ⟨v, rfl, h⟩ := ress1 r1
      obtain ⟨p, xs, rfl, h1, h2⟩ := h.tupE
      have k1 := getIs_reps h2 en
      subst k1
      refine .inr ⟨p, ns, rfl, .inl (.inl h1), fun ns' l hp hs hl => ?_⟩
      have := srt_unique (hp.trans (srtI_perm ns).symm) hs (srtI_srt ns)
      subst this
      exact q _ _ (Evl.Ex.new hl) (res_lst e hl (reps_intsD _))
  · cases hf
theorem de_sorted (hK : X.K = K) (hC : C.K = K) (hg : Gl X "sorted") (hm : X.mg "sorted" = none) (ha : DA C X [e] t n) (hs : starEach [e] X.env = (false, eval e X.env) :: starEach [] X.env := by rfl) (hpl : (backTo pos (starEach [] X.env)).any (·.1) = false := by rfl) :
    DE C X (.Call (.Name "sorted" p) [e] [] pos) (tCB (fun xs H Q => rSortedI K xs H Q ∨ rSortT K xs H Q) t) (mFn fSorted n) := by
  subst hK; exact de_callB (cr_sortedI.or cr_sortT) (vc_sorted hC) hg hm (by decide +kernel) ha (by decide) (by decide) hs hpl
end
end Dt

set_option maxRecDepth 100000
namespace Dt
open PySem PySem.Spec PyProof.Rows L2
open Evl (Ex)
section
variable {prog : Program} {w : World} {A : Around} {E : Value → Shared → Prop} {s : Shared}
theorem max_intTup {l : Addr} {xs : Array (Int × Nat)} {Q : Value → Shared → Prop} (hh : A.handled = none) (hl : s.heap.IsTuple l (intItems xs)) (hne : 0 < xs.size)
    (h : ∀ v h' tk, (intItems xs)[argBest (fun i j => decide (numAt xs i > numAt xs j)) (xs.size - 1)]? = some v → (∀ b o, s.heap.get? b = some o → h'.get? b = some o) → Q v { s with heap := h', toks := tk }) :
    wpAny (model prog w) A (call (.builtin "max") [.ref l]) Q E s := by
  have hlt : l < s.heap.objs.size := let ⟨_, e, _⟩ := hl; Heap.lt_size e
  have zlt : ∀ b ∈ [s.heap.objs.size, l], b < (s.heap.push { cls := .type "tuple_iterator", data := .fields #[.ref l, .int 0 0] }).objs.size := fun b hb => by
    rw [Heap.size_push]
    simp only [List.mem_cons, List.not_mem_nil, or_false] at hb
    rcases hb with rfl | rfl
    · exact Nat.lt_succ_self _
    · exact Nat.lt_succ_of_lt hlt
  refine call_max_walk (wpAny_pyIter_tuple hl ?_)
  refine ⟨_, _, _, _, _, _, _, rfl, Walks.tuple (A := A.in1) hh _ l (Nat.ne_of_lt hlt) (intItems xs), ⟨⟨_, Heap.get?_push_size _ rfl, rfl, rfl⟩, hl.push _⟩, zlt, by simpa [intItems] using hne, CmpOf.ints_gt (numAt xs) (fun _ _ => intItems_at), fun v h' tk hP hk => ?_⟩
  refine h v h' tk (by simpa [intItems] using hP) fun b o e => hk b o (fun hm => ?_) (Heap.get?_push_of_some _ e)
  simp only [List.mem_cons, List.not_mem_nil, or_false] at hm
  subst hm
  exact absurd (Heap.lt_size e) (Nat.lt_irrefl _)
theorem min_intTup {l : Addr} {xs : Array (Int × Nat)} {Q : Value → Shared → Prop} (hh : A.handled = none) (hl : s.heap.IsTuple l (intItems xs)) (hne : 0 < xs.size)
    (h : ∀ v h' tk, (intItems xs)[argBest (fun i j => decide (numAt xs i < numAt xs j)) (xs.size - 1)]? = some v → (∀ b o, s.heap.get? b = some o → h'.get? b = some o) → Q v { s with heap := h', toks := tk }) :
    wpAny (model prog w) A (call (.builtin "min") [.ref l]) Q E s := by
  have hlt : l < s.heap.objs.size := let ⟨_, e, _⟩ := hl; Heap.lt_size e
  have zlt : ∀ b ∈ [s.heap.objs.size, l], b < (s.heap.push { cls := .type "tuple_iterator", data := .fields #[.ref l, .int 0 0] }).objs.size := fun b hb => by
    rw [Heap.size_push]
    simp only [List.mem_cons, List.not_mem_nil, or_false] at hb
    rcases hb with rfl | rfl
    · exact Nat.lt_succ_self _
    · exact Nat.lt_succ_of_lt hlt
  refine call_min_walk (wpAny_pyIter_tuple hl ?_)
  refine ⟨_, _, _, _, _, _, _, rfl, Walks.tuple (A := A.in1) hh _ l (Nat.ne_of_lt hlt) (intItems xs), ⟨⟨_, Heap.get?_push_size _ rfl, rfl, rfl⟩, hl.push _⟩, zlt, by simpa [intItems] using hne, CmpOf.ints_lt (numAt xs) (fun _ _ => intItems_at), fun v h' tk hP hk => ?_⟩
  refine h v h' tk (by simpa [intItems] using hP) fun b o e => hk b o (fun hm => ?_) (Heap.get?_push_of_some _ e)
  simp only [List.mem_cons, List.not_mem_nil, or_false] at hm
  subst hm
  exact absurd (Heap.lt_size e) (Nat.lt_irrefl _)
theorem max_rawT {l : Addr} {its : List Value} {ns : List Int} {Q : Value → Shared → Prop} (hh : A.handled = none) (hl : s.heap.IsTuple l its.toArray) (hi : IntsAre its ns) (hne : 0 < ns.length)
    (h : ∀ h' tk M t', (∀ b o, s.heap.get? b = some o → h'.get? b = some o) → M ∈ ns → (∀ a, a ∈ ns → a ≤ M) → Q (.int M t') { s with heap := h', toks := tk }) : wpAny (model prog w) A (call (.builtin "max") [.ref l]) Q E s := by
  obtain ⟨xs, e⟩ := hi.allInts.items
  have hn : numsOf (intItems xs).toList = ns := by rw [← e]; exact hi.numsOf
  rw [nums_intItems] at hn; subst hn
  rw [e] at hl
  refine max_intTup hh hl (by simpa using hne) fun v h' tk hv hk => ?_
  obtain ⟨t, rfl⟩ := intItems_at hv
  obtain ⟨q1, q2⟩ := argBest_gt (numAt xs) (xs.size - 1)
  have hsz : 0 < xs.size := by simpa using hne
  refine h h' tk _ t hk (by rw [numAt_eq]; exact PySem.getD_mem (by rw [List.length_map, Array.length_toList]; omega)) fun a ha => ?_
  obtain ⟨j, hj, rfl⟩ := mem_getD ha
  rw [List.length_map, Array.length_toList] at hj; rw [← numAt_eq]; exact q2 j (by omega)
theorem min_rawT {l : Addr} {its : List Value} {ns : List Int} {Q : Value → Shared → Prop} (hh : A.handled = none) (hl : s.heap.IsTuple l its.toArray) (hi : IntsAre its ns) (hne : 0 < ns.length)
    (h : ∀ h' tk M t', (∀ b o, s.heap.get? b = some o → h'.get? b = some o) → M ∈ ns → (∀ a, a ∈ ns → M ≤ a) → Q (.int M t') { s with heap := h', toks := tk }) : wpAny (model prog w) A (call (.builtin "min") [.ref l]) Q E s := by
  obtain ⟨xs, e⟩ := hi.allInts.items
  have hn : numsOf (intItems xs).toList = ns := by rw [← e]; exact hi.numsOf
  rw [nums_intItems] at hn; subst hn
  rw [e] at hl
  refine min_intTup hh hl (by simpa using hne) fun v h' tk hv hk => ?_
  obtain ⟨t, rfl⟩ := intItems_at hv
  obtain ⟨q1, q2⟩ := argBest_lt (numAt xs) (xs.size - 1)
  have hsz : 0 < xs.size := by simpa using hne
  refine h h' tk _ t hk (by rw [numAt_eq]; exact PySem.getD_mem (by rw [List.length_map, Array.length_toList]; omega)) fun a ha => ?_
  obtain ⟨j, hj, rfl⟩ := mem_getD ha
  rw [List.length_map, Array.length_toList] at hj; rw [← numAt_eq]; exact q2 j (by omega)
end
section
variable {C : Cfg} {K : PySem.W.Frag} {X : Cx} {O0 O O' : List Addr} {H0 H H' H1 : Hp} {σ : L2.St} {ρ : E}
variable {a b c e o : Expr} {es : List Expr} {ta tb te to : TE} {ma mb me mo : M} {t : TA} {n : As} {p p2 pos pos2 apos : Pos}
def rMaxT (K : PySem.W.Frag) : List V → Hp → VK → Prop := fun vs H Q => ∃ (a : Addr) (ns : List Int), vs = [V.ref a] ∧ SqT K H a (ns.map V.int) ∧ 0 < ns.length ∧ ∀ m, m ∈ ns → (∀ y, y ∈ ns → y ≤ m) → Q (.int m) H
theorem cr_maxT (hc : X.calm = true) : CallR X (.builtin "max") (rMaxT X.K) := by
  intro pins s σ H vs us Q I r h
  obtain ⟨a, ns, rfl, hs, hne, q⟩ := h
  obtain ⟨its, rv, hl, _⟩ := I.tuple hs
  rw [Vals.ref1 r]
  exact max_rawT (I.ok.hd hc) hl rv.ints hne fun h' tk m t' hk h1 h2 => ⟨.int _, H, I.kept hk, ⟨_, rfl⟩, q m h1 h2⟩
def rMinT (K : PySem.W.Frag) : List V → Hp → VK → Prop := fun vs H Q => ∃ (a : Addr) (ns : List Int), vs = [V.ref a] ∧ SqT K H a (ns.map V.int) ∧ 0 < ns.length ∧ ∀ m, m ∈ ns → (∀ y, y ∈ ns → m ≤ y) → Q (.int m) H
theorem cr_minT (hc : X.calm = true) : CallR X (.builtin "min") (rMinT X.K) := by
  intro pins s σ H vs us Q I r h
  obtain ⟨a, ns, rfl, hs, hne, q⟩ := h
  obtain ⟨its, rv, hl, _⟩ := I.tuple hs
  rw [Vals.ref1 r]
  exact min_rawT (I.ok.hd hc) hl rv.ints hne fun h' tk m t' hk h1 h2 => ⟨.int _, H, I.kept hk, ⟨_, rfl⟩, q m h1 h2⟩
def bestMax (x : Int) (xs : List Int) : Int := xs.foldl (fun a b => if b > a then b else a) x
theorem bestMax_in (x : Int) : ∀ xs : List Int, bestMax x xs ∈ x :: xs
  | [] => List.mem_singleton.mpr rfl
  | y :: ys => by
    show bestMax (if y > x then y else x) ys ∈ _
    have := bestMax_in (if y > x then y else x) ys
    rcases List.mem_cons.mp this with h | h
    · rw [h]; split <;> simp
    · simp [h]
theorem bestMax_le (x : Int) : ∀ (xs : List Int), ∀ y ∈ x :: xs, y ≤ bestMax x xs
  | [], y, hy => by rw [List.mem_singleton] at hy; subst hy; exact Int.le_refl _
  | z :: zs, y, hy => by
    show y ≤ bestMax (if z > x then z else x) zs
    have ih := bestMax_le (if z > x then z else x) zs
    rcases List.mem_cons.mp hy with h | h
    · have h0 := ih _ List.mem_cons_self
      subst h
      by_cases hz : z > y
      · rw [if_pos hz] at h0 ⊢; omega
      · rw [if_neg hz] at h0 ⊢; omega
    · rcases List.mem_cons.mp h with h | h
      · have h0 := ih _ List.mem_cons_self
        subst h
        by_cases hz : y > x
        · rw [if_pos hz] at h0 ⊢; omega
        · rw [if_neg hz] at h0 ⊢; omega
      · exact ih y (List.mem_cons_of_mem _ h)
def fMax1 : FN := fun rs => match rs with
  | [(.lst ds, _)] => (getIs ds).bind fun ns => match ns with | [] => none | x :: xs => some (.int (bestMax x xs), .pure)
  | [(.tup ds, _)] => (getIs ds).bind fun ns => match ns with | [] => none | x :: xs => some (.int (bestMax x xs), .pure)
  | _ => none
theorem vc_max1 (hC : C.K = K) : VC C (fun xs H Q => rMax K xs H Q ∨ rMaxT K xs H Q) fMax1 := by
  intro O0 O H H' vs rs rz c c' e r1 hf Q q
  have uniq : ∀ {x : Int} {xs : List Int} {m : Int}, m ∈ x :: xs → (∀ y, y ∈ x :: xs → y ≤ m) → m = bestMax x xs := fun {x xs m} h1 h2 => by
    have a := bestMax_in x xs
    have b := bestMax_le x xs m h1
    have c := h2 _ a
    omega
  unfold fMax1 at hf
  split at hf
  · rename_i ds _
    obtain ⟨ns, en, hf⟩ := bind2 hf
    cases ns with
    | nil => cases hf
    | cons x xs =>
      cases hf
      obtain ⟨v, rfl, h⟩ := ress1 r1
      obtain ⟨p, ys, rfl, h1, h2⟩ := h.lstE
      have k1 := getIs_reps h2 en
      subst k1
      exact .inl ⟨p, x :: xs, rfl, .inl (.inl h1), Nat.succ_pos _, fun m hm hy => by rw [uniq hm hy]; exact q _ _ (Evl.Ex.refl _) .int⟩
  · rename_i ds _
    obtain ⟨ns, en, hf⟩ := bind2 hf
    cases ns with
    | nil => cases hf
    | cons x xs =>
      cases hf
      obtain ⟨v, rfl, h⟩ := ress1 r1
      obtain ⟨p, ys, rfl, h1, h2⟩ := h.tupE
      have k1 := getIs_reps h2 en
      subst k1
      exact .inr ⟨p, x :: xs, rfl, .inl (.inl h1), Nat.succ_pos _, fun m hm hy => by rw [uniq hm hy]; exact q _ _ (Evl.Ex.refl _) .int⟩
  · cases hf
theorem de_max1 (hK : X.K = K) (hC : C.K = K) (hc : X.calm = true) (hg : Gl X "max") (hm : X.mg "max" = none) (ha : DA C X [e] t n) (hs : starEach [e] X.env = (false, eval e X.env) :: starEach [] X.env := by rfl) (hpl : (backTo pos (starEach [] X.env)).any (·.1) = false := by rfl) :
    DE C X (.Call (.Name "max" p) [e] [] pos) (tCB (fun xs H Q => rMax K xs H Q ∨ rMaxT K xs H Q) t) (mFn fMax1 n) := by
  subst hK; exact de_callB ((cr_max hc).or (cr_maxT hc)) (vc_max1 hC) hg hm (by decide +kernel) ha (by decide) (by decide) hs hpl
def bestMin (x : Int) (xs : List Int) : Int := xs.foldl (fun a b => if b < a then b else a) x
theorem bestMin_in (x : Int) : ∀ xs : List Int, bestMin x xs ∈ x :: xs
  | [] => List.mem_singleton.mpr rfl
  | y :: ys => by
    show bestMin (if y < x then y else x) ys ∈ _
    have := bestMin_in (if y < x then y else x) ys
    rcases List.mem_cons.mp this with h | h
    · rw [h]; split <;> simp
    · simp [h]
theorem bestMin_le (x : Int) : ∀ (xs : List Int), ∀ y ∈ x :: xs, bestMin x xs ≤ y
  | [], y, hy => by rw [List.mem_singleton] at hy; subst hy; exact Int.le_refl _
  | z :: zs, y, hy => by
    show bestMin (if z < x then z else x) zs ≤ y
    have ih := bestMin_le (if z < x then z else x) zs
    rcases List.mem_cons.mp hy with h | h
    · have h0 := ih _ List.mem_cons_self
      subst h
      by_cases hz : z < y
      · rw [if_pos hz] at h0 ⊢; omega
      · rw [if_neg hz] at h0 ⊢; omega
    · rcases List.mem_cons.mp h with h | h
      · have h0 := ih _ List.mem_cons_self
        subst h
        by_cases hz : y < x
        · rw [if_pos hz] at h0 ⊢; omega
        · rw [if_neg hz] at h0 ⊢; omega
      · exact ih y (List.mem_cons_of_mem _ h)
def fMin1 : FN := fun rs => match rs with
  | [(.lst ds, _)] => (getIs ds).bind fun ns => match ns with | [] => none | x :: xs => some (.int (bestMin x xs), .pure)
  | [(.tup ds, _)] => (getIs ds).bind fun ns => match ns with | [] => none | x :: xs => some (.int (bestMin x xs), .pure)
  | _ => none
theorem vc_min1 (hC : C.K = K) : VC C (fun xs H Q => rMin K xs H Q ∨ rMinT K xs H Q) fMin1 := by
  intro O0 O H H' vs rs rz c c' e r1 hf Q q
  have uniq : ∀ {x : Int} {xs : List Int} {m : Int}, m ∈ x :: xs → (∀ y, y ∈ x :: xs → m ≤ y) → m = bestMin x xs := fun {x xs m} h1 h2 => by
    have a := bestMin_in x xs
    have b := bestMin_le x xs m h1
    have c := h2 _ a
    omega
  unfold fMin1 at hf
  split at hf
  · rename_i ds _
    obtain ⟨ns, en, hf⟩ := bind2 hf
    cases ns with
    | nil => cases hf
    | cons x xs =>
      cases hf
      obtain ⟨v, rfl, h⟩ := ress1 r1
      obtain ⟨p, ys, rfl, h1, h2⟩ := h.lstE
      have k1 := getIs_reps h2 en
      subst k1
      exact .inl ⟨p, x :: xs, rfl, .inl (.inl h1), Nat.succ_pos _, fun m hm hy => by rw [uniq hm hy]; exact q _ _ (Evl.Ex.refl _) .int⟩
  · rename_i ds _
    obtain ⟨ns, en, hf⟩ := bind2 hf
    cases ns with
    | nil => cases hf
    | cons x xs =>
      cases hf
      obtain ⟨v, rfl, h⟩ := ress1 r1
      obtain ⟨p, ys, rfl, h1, h2⟩ := h.tupE
      have k1 := getIs_reps h2 en
      subst k1
      exact .inr ⟨p, x :: xs, rfl, .inl (.inl h1), Nat.succ_pos _, fun m hm hy => by rw [uniq hm hy]; exact q _ _ (Evl.Ex.refl _) .int⟩
  · cases hf
theorem de_min1 (hK : X.K = K) (hC : C.K = K) (hc : X.calm = true) (hg : Gl X "min") (hm : X.mg "min" = none) (ha : DA C X [e] t n) (hs : starEach [e] X.env = (false, eval e X.env) :: starEach [] X.env := by rfl) (hpl : (backTo pos (starEach [] X.env)).any (·.1) = false := by rfl) :
    DE C X (.Call (.Name "min" p) [e] [] pos) (tCB (fun xs H Q => rMin K xs H Q ∨ rMinT K xs H Q) t) (mFn fMin1 n) := by
  subst hK; exact de_callB ((cr_min hc).or (cr_minT hc)) (vc_min1 hC) hg hm (by decide +kernel) ha (by decide) (by decide) hs hpl
end
end Dt

set_option maxRecDepth 100000
namespace Dt
open PySem PySem.Spec PyProof.Rows L2
open Evl (Ex)
section
variable {C : Cfg} {K : PySem.W.Frag} {X : Cx} {O0 O O' : List Addr} {H0 H H' H1 H2 : Hp} {σ : L2.St} {ρ : E}
/-- kept, but for one list -/
def ExD (Dl : Addr) (H H' : Hp) : Prop := ∀ b o, b ≠ Dl → H b = some o → H' b = some o
theorem ExD.refl {Dl : Addr} : ExD Dl H H := fun _ _ _ h => h
theorem ExD.of (e : Ex H H') {Dl : Addr} : ExD Dl H H' := fun b o _ h => e b o h
theorem ExD.trans {Dl : Addr} (a : ExD Dl H H1) (b : ExD Dl H1 H2) : ExD Dl H H2 := fun c o n h => b c o n (a c o n h)
theorem ExD.put {Dl : Addr} {o : HO} : ExD Dl H (upd H Dl o) := fun b u n h => by rw [upd_ne n]; exact h
theorem ExD.ex {Dl : Addr} (a : ExD Dl H H1) (h0 : H0 Dl = none) (e : Ex H0 H) : Ex H0 H1 := fun b o h => a b o (fun z => by subst z; rw [h0] at h; cases h) (e b o h)
theorem ExD.hid {Dl : Addr} (a : ExD Dl H H1) (m : Dl ∈ O) : Ex (hid H O) (hid H1 O) := fun b o h => by
  unfold Dt.hid at h ⊢
  split at h
  · cases h
  · rename_i n
    rw [if_neg n]
    exact a b o (fun z => n (z ▸ m)) h
theorem SV.exD {Dl : Addr} {xs : List V} (s : SV C (Dl :: O0) (Dl :: O) H σ ρ) (x : ExD Dl H H') (ha : H' Dl = some (.lst xs)) : SV C (Dl :: O0) (Dl :: O) H' σ ρ where
  len := s.len
  dom := fun b hb z => by
    by_cases hd : b = Dl
    · subst hd; rw [ha] at z; cases z
    · cases q : H b with
      | none => exact s.dom b hb q
      | some o => have := x b o hd q; rw [z] at this; cases this
  sub := s.sub
  ll := fun b hb h0 => by
    obtain ⟨ys, e⟩ := s.ll b hb h0
    exact ⟨ys, x _ _ (fun z => h0 (z ▸ List.mem_cons_self)) e⟩
  sh := fun i d h => let ⟨v, q, r⟩ := s.sh i d h; ⟨v, q, r.mono (x.hid List.mem_cons_self)⟩
  ow := fun i d h => let ⟨b, ys, ds, q1, q2, q3, q4, q5, q6⟩ := s.ow i d h; ⟨b, ys, ds, q1, q2, q3, q4, x _ _ (fun z => q4 (z ▸ List.mem_cons_self)) q5, q6.mono (x.hid List.mem_cons_self)⟩
  inj := s.inj
theorem SV.hide2 {a : Addr} {xs : List V} (s : SV C O0 O H1 σ ρ) (hn : H1 a = none) (e : Ex H1 H') (ha : H' a = some (.lst xs)) : SV C (a :: O0) (a :: O) H' σ ρ where
  len := s.len
  dom := (s.hide hn e ha).dom
  sub := fun b hb => by
    rcases List.mem_cons.mp hb with rfl | hb
    · exact List.mem_cons_self
    · exact List.mem_cons_of_mem _ (s.sub b hb)
  ll := fun b hb h0 => (s.hide hn e ha).ll b hb fun z => h0 (List.mem_cons_of_mem _ z)
  sh := (s.hide hn e ha).sh
  ow := fun i d h => by
    obtain ⟨b, ys, ds, q1, q2, q3, q4, q5, q6⟩ := s.ow i d h
    exact ⟨b, ys, ds, q1, q2, List.mem_cons_of_mem _ q3, fun z => by
      rcases List.mem_cons.mp z with rfl | z
      · rw [hn] at q5; cases q5
      · exact q4 z, e _ _ q5, (q6.mono (hid_new hn)).mono (hid_mono e)⟩
  inj := s.inj
/-! ### a comprehension with two for -/
def lcGo2 (g : D → E → Option E) (mt : B) (mi1 : I) (g1 : D → E → Option E) (mt1 : B) (me : M) (vs1 : List Nat) : List D → E → Option (List D)
  | [], _ => some []
  | d :: ds, ρ => (g d ρ).bind fun ρ1 => (mt ρ1).bind fun k => if k then (mi1 ρ1).bind fun ds1 => (lcGo g1 mt1 me ds1 (wipeE ρ1 vs1)).bind fun es => (lcGo2 g mt mi1 g1 mt1 me vs1 ds ρ).map fun fs => es ++ fs else lcGo2 g mt mi1 g1 mt1 me vs1 ds ρ
def mLc2 (mi : I) (g : D → E → Option E) (mt : B) (mi1 : I) (g1 : D → E → Option E) (mt1 : B) (me : M) (vs vs1 : List Nat) : M := fun ρ => (mi ρ).bind fun ds => (lcGo2 g mt mi1 g1 mt1 me vs1 ds (wipeE ρ vs)).bind fun es => if es.length ≤ lim then some (.lst es, .fresh) else none
variable {wi wi1 : TI} {g g1 : TG} {tt tt1 : TT} {te : TE} {mi mi1 : I} {mg mg1 : D → E → Option E} {mt mt1 : B} {me : M} {js js1 : List Nat}
theorem snd_lc2 {vs vs1 : List Nat} (hi : ∀ O0 O H σ ρ ds, SV C O0 O H σ ρ → mi ρ = some ds → ∀ R : It → Hp → Prop, (∀ J H1, Ex H H1 → ItOk C true O H1 J ds → R J H1) → wi σ H R)
    (hg : ∀ O0 O H σ ρ ρ' d v, SV C O0 O H σ ρ → Rep C (hid H O) v d → mg d ρ = some ρ' → ∀ Q : L2.St → Hp → Prop, (∀ σ', SV C O0 O H σ' ρ' → (∀ vs, (∀ j ∈ js, j ∈ vs) → wipe σ' vs = wipe σ vs) → Q σ' H) → g v σ H Q)
    (ht : SndT C tt mt)
    (hi1 : ∀ O0 O H σ ρ ds, SV C O0 O H σ ρ → mi1 ρ = some ds → ∀ R : It → Hp → Prop, (∀ J H1, Ex H H1 → ItOk C false O H1 J ds → R J H1) → wi1 σ H R)
    (hg1 : ∀ O0 O H σ ρ ρ' d v, SV C O0 O H σ ρ → Rep C (hid H O) v d → mg1 d ρ = some ρ' → ∀ Q : L2.St → Hp → Prop, (∀ σ', SV C O0 O H σ' ρ' → (∀ vs, (∀ j ∈ js1, j ∈ vs) → wipe σ' vs = wipe σ vs) → Q σ' H) → g1 v σ H Q)
    (ht1 : SndT C tt1 mt1) (he : Snd C te me) (hj : ∀ j ∈ js, j ∈ vs) (hj1 : ∀ j ∈ js1, j ∈ vs1) : Snd C (tLc2 wi g tt wi1 g1 tt1 te vs vs1) (mLc2 mi mg mt mi1 mg1 mt1 me vs vs1) := by
  intro O0 O H σ ρ r s h Q q
  unfold mLc2 at h
  obtain ⟨ds, ei, h⟩ := bind2 h
  obtain ⟨es, el, h⟩ := bind2 h
  split at h
  · rename_i hlen
    cases h
    refine hi _ _ _ _ _ _ s ei _ fun J H1 e1 ok => fun Dl hD => ?_
    have s1 := s.mono e1
    refine ⟨fun i m Hc => m = ds.length - i ∧ i ≤ ds.length ∧ Ex H1 Hc ∧ ∃ acc da dr, Hc Dl = some (.lst acc) ∧ Reps C (hid Hc (Dl :: O)) acc da ∧ lcGo2 mg mt mi1 mg1 mt1 me vs1 (ds.drop i) (wipeE ρ vs) = some dr ∧ es = da ++ dr,
      ⟨_, rfl, Nat.zero_le _, Evl.Ex.new hD, [], [], es, upd_same, .nil, by simpa using el, rfl⟩, ?_⟩
    rintro i m Hc ⟨rfl, hi', ex, acc, da, dr, ha, hr, hgo, hes⟩
    have dmc : ∀ b ∈ Dl :: O, Hc b ≠ none := fun b hb z => by
      rcases List.mem_cons.mp hb with rfl | hb
      · rw [ha] at z; cases z
      · exact (s1.mono ex).dom b hb z
    have exh : Ex (hid H1 O) (hid Hc (Dl :: O)) := (hid_new hD).trans (hid_mono ex)
    obtain ⟨okg, oks⟩ := ok Hc (Dl :: O) (fun _ => ex) exh dmc i
    by_cases hlt : i < ds.length
    · have hd : ds[i]? = some ds[i] := List.getElem?_eq_getElem hlt
      obtain ⟨go, yl⟩ := okg _ hd
      rw [List.drop_eq_getElem_cons hlt] at hgo
      unfold lcGo2 at hgo
      refine .inr ⟨go, fun Hn => Ex H1 Hn ∧ ∃ acc da dr, Hn Dl = some (.lst acc) ∧ Reps C (hid Hn (Dl :: O)) acc da ∧ lcGo2 mg mt mi1 mg1 mt1 me vs1 (ds.drop (i + 1)) (wipeE ρ vs) = some dr ∧ es = da ++ dr,
        fun H' hn => ⟨_, by omega, rfl, hlt, hn.1, hn.2⟩, fun x H3 y => ?_⟩
      obtain ⟨e3, rx⟩ := yl x H3 y
      have ex3 : Ex H1 H3 := ex.trans e3
      have ha3 : H3 Dl = some (.lst acc) := e3 _ _ ha
      have s3 : SV C (Dl :: O0) (Dl :: O) H3 (wipe σ vs) (wipeE ρ vs) := (s1.wipe).hide2 hD ex3 ha3
      have hr3 : Reps C (hid H3 (Dl :: O)) acc da := hr.mono (hid_mono e3)
      obtain ⟨ρ1, eg, hgo⟩ := bind2 hgo
      obtain ⟨k, et, hgo⟩ := bind2 hgo
      refine hg _ _ _ _ _ _ _ _ s3 rx eg _ fun σ2 s4 w => ⟨(w vs hj).trans wipe_wipe, ?_⟩
      refine ht _ _ _ _ _ _ s4 et _ fun H4 e4 => ?_
      have ha4 : H4 Dl = some (.lst acc) := e4 _ _ ha3
      have hr4 : Reps C (hid H4 (Dl :: O)) acc da := hr3.mono (hid_mono e4)
      cases k with
      | false =>
        rw [if_neg Bool.false_ne_true]
        exact ⟨ex3.trans e4, acc, da, dr, ha4, hr4, hgo, hes⟩
      | true =>
        rw [if_pos rfl]
        rw [if_pos rfl] at hgo
        obtain ⟨ds1, e1i, hgo⟩ := bind2 hgo
        obtain ⟨es1, e1l, hgo⟩ := bind2 hgo
        cases eo : lcGo2 mg mt mi1 mg1 mt1 me vs1 (ds.drop (i + 1)) (wipeE ρ vs) with
        | none => rw [eo] at hgo; cases hgo
        | some fs =>
          rw [eo] at hgo
          replace hgo : some (es1 ++ fs) = some dr := hgo
          cases hgo
          refine hi1 _ _ _ _ _ _ (s4.mono e4) e1i _ fun J1 H5 e5 ok1 => ?_
          have s5 := (s4.mono e4).mono e5
          have ex5 : Ex H1 H5 := (ex3.trans e4).trans e5
          refine ⟨fun j k Hd => k = ds1.length - j ∧ j ≤ ds1.length ∧ ExD Dl H5 Hd ∧ ∃ acc da dr1, Hd Dl = some (.lst acc) ∧ Reps C (hid Hd (Dl :: O)) acc da ∧ lcGo mg1 mt1 me (ds1.drop j) (wipeE ρ1 vs1) = some dr1 ∧ es = da ++ (dr1 ++ fs),
            ⟨_, rfl, Nat.zero_le _, .refl, acc, da, es1, e5 _ _ ha4, hr4.mono (hid_mono e5), by simpa using e1l, hes⟩, ?_⟩
          rintro j kk Hd ⟨rfl, hj', exd, acc2, da2, dr1, had, hrd, hgd, hesd⟩
          have dmd : ∀ b ∈ Dl :: O, Hd b ≠ none := (s5.exD exd had).dom
          obtain ⟨okg1, oks1⟩ := ok1 Hd (Dl :: O) (fun z => by cases z) (exd.hid List.mem_cons_self) dmd j
          by_cases hlt1 : j < ds1.length
          · have hd1 : ds1[j]? = some ds1[j] := List.getElem?_eq_getElem hlt1
            obtain ⟨go1, yl1⟩ := okg1 _ hd1
            rw [List.drop_eq_getElem_cons hlt1] at hgd
            unfold lcGo at hgd
            refine .inr ⟨go1, fun Hn => ExD Dl H5 Hn ∧ ∃ acc da dr1, Hn Dl = some (.lst acc) ∧ Reps C (hid Hn (Dl :: O)) acc da ∧ lcGo mg1 mt1 me (ds1.drop (j + 1)) (wipeE ρ1 vs1) = some dr1 ∧ es = da ++ (dr1 ++ fs),
              fun H' hn => ⟨_, by omega, rfl, hlt1, hn.1, hn.2⟩, fun x1 H6 y1 => ?_⟩
            obtain ⟨e6, rx1⟩ := yl1 x1 H6 y1
            have ha6 : H6 Dl = some (.lst acc2) := e6 _ _ had
            have hr6 : Reps C (hid H6 (Dl :: O)) acc2 da2 := hrd.mono (hid_mono e6)
            have exd6 : ExD Dl H5 H6 := exd.trans (.of e6)
            have s6 : SV C (Dl :: O0) (Dl :: O) H6 (wipe σ2 vs1) (wipeE ρ1 vs1) := (s5.wipe).exD exd6 ha6
            obtain ⟨ρ2, eg1, hgd⟩ := bind2 hgd
            obtain ⟨k1, et1, hgd⟩ := bind2 hgd
            refine hg1 _ _ _ _ _ _ _ _ s6 rx1 eg1 _ fun σ3 s7 w1 => ⟨(w1 vs1 hj1).trans wipe_wipe, ?_⟩
            refine ht1 _ _ _ _ _ _ s7 et1 _ fun H7 e7 => ?_
            have ha7 : H7 Dl = some (.lst acc2) := e7 _ _ ha6
            have hr7 : Reps C (hid H7 (Dl :: O)) acc2 da2 := hr6.mono (hid_mono e7)
            cases k1 with
            | false =>
              rw [if_neg Bool.false_ne_true]
              exact ⟨exd6.trans (.of e7), acc2, da2, dr1, ha7, hr7, hgd, hesd⟩
            | true =>
              rw [if_pos rfl]
              rw [if_pos rfl] at hgd
              obtain ⟨rz, em, hgd⟩ := bind2 hgd
              split at hgd
              · cases hgd
              · rename_i hnb
                cases eo1 : lcGo mg1 mt1 me (ds1.drop (j + 1)) (wipeE ρ1 vs1) with
                | none => rw [eo1] at hgd; cases hgd
                | some dr2 =>
                  rw [eo1] at hgd
                  cases hgd
                  refine he _ _ _ _ _ _ (s7.mono e7) em _ fun v8 H8 e8 r8 => ?_
                  have ha8 : H8 Dl = some (.lst acc2) := e8 _ _ ha7
                  have hr8 : Reps C (hid H8 (Dl :: O)) acc2 da2 := hr7.mono (hid_mono e8)
                  have hal := hr8.length
                  have rv : Rep C (hid H8 (Dl :: O)) v8 rz.1 := r8.sharedF (s7.mono e7).dom hnb
                  have hle : es.length = da2.length + (dr2.length + 1 + fs.length) := by
                    rw [hesd]; simp only [List.length_append, List.length_cons]
                  refine ⟨acc2, ha8, lim_lt (by omega), ((exd6.trans (.of e7)).trans (.of e8)).trans .put, acc2 ++ [v8], da2 ++ [rz.1], dr2, upd_same, ?_, rfl, by rw [hesd]; simp⟩
                  rw [hid_upd List.mem_cons_self]
                  exact hr8.append (.cons rv .nil)
          · have hie : ds1.length ≤ j := by omega
            rw [List.drop_eq_nil_of_le hie] at hgd
            cases hgd
            exact .inl ⟨oks1 hie, exd.ex hD ex5, acc2, da2, fs, had, hrd, rfl, hesd⟩
    · have hie : ds.length ≤ i := by omega
      rw [List.drop_eq_nil_of_le hie] at hgo
      cases hgo
      rw [List.append_nil] at hes
      subst hes
      exact .inl ⟨oks hie, q _ _ (e1.trans ex) (.fresh (Evl.fresh_back e1 hD) ha hr)⟩
  · cases h
variable {elt tg iter tg1 iter1 : Expr} {ifs ifs1 : List Expr} {scope : Scope} {own : List (Str × Nat)} {vs1 : List Nat}
theorem de_lc2 {pos : Pos} (hc : X.calm = true) (hN : X.N.Nodup) (hi : DI C true X tg iter wi mi) (ok : BlkOk X.N X.env.scope scope own)
    (hg : ∀ (s : Shared) (H : Hp) (A : Addr) (cl : List (Str × Addr)) (fp : List Addr), DG C (X.blk s H scope (compEnvC scope cl A X.env) fp) tg g mg js) (ht : ∀ (s : Shared) (H : Hp) (A : Addr) (cl : List (Str × Addr)) (fp : List Addr), DTs C (X.blk s H scope (compEnvC scope cl A X.env) fp) ifs tt mt)
    (hi1 : ∀ (s : Shared) (H : Hp) (A : Addr) (cl : List (Str × Addr)) (fp : List Addr), DI C false (X.blk s H scope (compEnvC scope cl A X.env) fp) tg1 iter1 wi1 mi1)
    (hg1 : ∀ (s : Shared) (H : Hp) (A : Addr) (cl : List (Str × Addr)) (fp : List Addr), DG C (X.blk s H scope (compEnvC scope cl A X.env) fp) tg1 g1 mg1 vs1) (ht1 : ∀ (s : Shared) (H : Hp) (A : Addr) (cl : List (Str × Addr)) (fp : List Addr), DTs C (X.blk s H scope (compEnvC scope cl A X.env) fp) ifs1 tt1 mt1)
    (he : ∀ (s : Shared) (H : Hp) (A : Addr) (cl : List (Str × Addr)) (fp : List Addr), DE C (X.blk s H scope (compEnvC scope cl A X.env) fp) elt te me) (hj : ∀ j ∈ js, j ∈ own.map (·.2) := by decide) (hv : ∀ j ∈ vs1, j ∈ own.map (·.2) := by decide)
    (hs : ∀ x, foldedSetIterable iter X.env x = pure x := by intro _; rfl) (hs1 : ∀ env x, foldedSetIterable iter1 env x = pure x := by intro _ _; rfl) :
    DE C X (.ListComp elt [⟨tg, iter, ifs, 0⟩, ⟨tg1, iter1, ifs1, 0⟩] scope pos) (tLc2 wi g tt wi1 g1 tt1 te (own.map (·.2)) vs1) (mLc2 mi mg mt mi1 mg1 mt1 me (own.map (·.2)) vs1) :=
  ⟨pe_lc2 hc hN hi.pi ok hv (fun s H A cl fp => (hg s H A cl fp).pg) (fun s H A cl fp => (ht s H A cl fp).pt) (fun s H A cl fp => (hi1 s H A cl fp).pi) (fun s H A cl fp => (hg1 s H A cl fp).pg) (fun s H A cl fp => (ht1 s H A cl fp).pt) (fun s H A cl fp => (he s H A cl fp).pe) hs hs1,
    snd_lc2 hi.sd (hg {} (fun _ => none) 0 [] []).sd (ht {} (fun _ => none) 0 [] []).sd (hi1 {} (fun _ => none) 0 [] []).sd (hg1 {} (fun _ => none) 0 [] []).sd (ht1 {} (fun _ => none) 0 [] []).sd (he {} (fun _ => none) 0 [] []).sd hj fun _ h => h⟩
theorem ds_setLc2 (i : Nat) {y : Str} {py : Pos} {pos spos : Pos} (hc : X.calm = true) (hN : X.N.Nodup) (hi : DI C true X tg iter wi mi) (ok : BlkOk X.N X.env.scope scope own)
    (hg : ∀ (s : Shared) (H : Hp) (A : Addr) (cl : List (Str × Addr)) (fp : List Addr), DG C (X.blk s H scope (compEnvC scope cl A X.env) fp) tg g mg js) (ht : ∀ (s : Shared) (H : Hp) (A : Addr) (cl : List (Str × Addr)) (fp : List Addr), DTs C (X.blk s H scope (compEnvC scope cl A X.env) fp) ifs tt mt)
    (hi1 : ∀ (s : Shared) (H : Hp) (A : Addr) (cl : List (Str × Addr)) (fp : List Addr), DI C false (X.blk s H scope (compEnvC scope cl A X.env) fp) tg1 iter1 wi1 mi1)
    (hg1 : ∀ (s : Shared) (H : Hp) (A : Addr) (cl : List (Str × Addr)) (fp : List Addr), DG C (X.blk s H scope (compEnvC scope cl A X.env) fp) tg1 g1 mg1 vs1) (ht1 : ∀ (s : Shared) (H : Hp) (A : Addr) (cl : List (Str × Addr)) (fp : List Addr), DTs C (X.blk s H scope (compEnvC scope cl A X.env) fp) ifs1 tt1 mt1)
    (he : ∀ (s : Shared) (H : Hp) (A : Addr) (cl : List (Str × Addr)) (fp : List Addr), DE C (X.blk s H scope (compEnvC scope cl A X.env) fp) elt te me) (hj : ∀ j ∈ js, j ∈ own.map (·.2) := by decide) (hv : ∀ j ∈ vs1, j ∈ own.map (·.2) := by decide)
    (hy : X.N[i]? = some y := by rfl) (hyl : X.env.scope.names.lookup y = some .local := by rfl)
    (hsw : swapsWith (.ListComp elt [⟨tg, iter, ifs, 0⟩, ⟨tg1, iter1, ifs1, 0⟩] scope pos) (some (.Name y py)) spos.line X.env = pure true := by exact sw_true rfl rfl rfl (by decide +kernel))
    (hs : ∀ x, foldedSetIterable iter X.env x = pure x := by intro _; rfl) (hs1 : ∀ env x, foldedSetIterable iter1 env x = pure x := by intro _ _; rfl) :
    DS C X (.Assign [.Name y py] (.ListComp elt [⟨tg, iter, ifs, 0⟩, ⟨tg1, iter1, ifs1, 0⟩] scope pos) spos) (tAsg (tLc2 wi g tt wi1 g1 tt1 te (own.map (·.2)) vs1) (gName i)) (sSet i (mLc2 mi mg mt mi1 mg1 mt1 me (own.map (·.2)) vs1)) :=
  ⟨ps_setLc2 hc hN hy hyl hsw hi.pi ok hv (fun s H A cl fp => (hg s H A cl fp).pg) (fun s H A cl fp => (ht s H A cl fp).pt) (fun s H A cl fp => (hi1 s H A cl fp).pi) (fun s H A cl fp => (hg1 s H A cl fp).pg) (fun s H A cl fp => (ht1 s H A cl fp).pt) (fun s H A cl fp => (he s H A cl fp).pe) hs hs1,
    snd_set (snd_lc2 hi.sd (hg {} (fun _ => none) 0 [] []).sd (ht {} (fun _ => none) 0 [] []).sd (hi1 {} (fun _ => none) 0 [] []).sd (hg1 {} (fun _ => none) 0 [] []).sd (ht1 {} (fun _ => none) 0 [] []).sd (he {} (fun _ => none) 0 [] []).sd hj fun _ h => h)⟩
end
end Dt

set_option maxRecDepth 100000
set_option maxHeartbeats 4000000
namespace Dt
open PySem PySem.Spec PyProof.Rows L2
open Evl (Ex)
/-! ### a tuple, so many times: once, and not at all -/
theorem mul_once (l : Addr) (items : Array Value) (n : Nat) (sl : Array (Option Value)) (dd : Option Addr) (u : Tok) :
    Meets (Builtin.«tuple.__mul__» ⟨[.ref l, .int 1 u], []⟩) (fun _ R s => s.heap.get? l = some { cls := .type "tuple", dict := dd, data := .seq items n, slots := sl } ∧ R (.ok (.ret (Value.ref l))) s) :=
  .of_wp fun prog w A R s h => by
    obtain ⟨hp, g, d, tk, os⟩ := s
    obtain ⟨hl, h⟩ := h
    have f1 := AutoSeq1.idx_int
    wp_walk using wpAny_loadPart' hl
    exact ⟨_, rfl, h⟩
theorem mul_none (l : Addr) (items : Array Value) (n : Nat) (sl : Array (Option Value)) (dd : Option Addr) (x : Int) (u : Tok) (h0 : x ≤ 0) (h1 : -1000 ≤ x) (hne : items.isEmpty = false) :
    Meets (Builtin.«tuple.__mul__» ⟨[.ref l, .int x u], []⟩) (fun _ R s => s.heap.get? l = some { cls := .type "tuple", dict := dd, data := .seq items n, slots := sl } ∧
      R (.ok (.ret (Value.ref s.heap.objs.size))) { s with heap := s.heap.push { cls := Value.type "tuple", data := Data.seq #[] } }) :=
  .of_wp fun prog w A R s h => by
    obtain ⟨hp, g, d, tk, os⟩ := s
    obtain ⟨hl, h⟩ := h
    have f1 := AutoSeq1.idx_int
    wp_walk using wpAny_loadPart' hl
    refine wpAny_ite_false (decide_eq_false (by rw [decide_eq_false (show ¬ x < -2 ^ 63 by omega), decide_eq_false (show ¬ x ≥ 2 ^ 63 by omega)]; exact Bool.false_ne_true)) ?_
    wp_walk using wpAny_loadPart' hl
    refine wpAny_ite_false (decide_eq_false (by rw [hne, Bool.false_or]; intro z; have := eq_of_beq z; omega)) ?_
    wp_walk using wpAny_loadPart' hl
    exact ⟨_, rfl, h⟩
/-- which of the three: more than once, once, not at all -/
def rRepAny (K : PySem.W.Frag) : R2 := fun x y H Q => rRepT K x y H Q ∨ (∃ l xs, x = .ref l ∧ y = .int 1 ∧ SqT K H l xs ∧ Q (.ref l) H) ∨
  (∃ l k xs, x = .ref l ∧ y = .int k ∧ SqT K H l xs ∧ xs ≠ [] ∧ k ≤ 0 ∧ -1000 ≤ k ∧ ∀ p, H p = none → Q (.ref p) (upd H p (.tup [])))
section
variable {X : Cx}
theorem op_once : OpR X (binaryOp .Mult) (fun x y H Q => ∃ l xs, x = .ref l ∧ y = .int 1 ∧ SqT X.K H l xs ∧ Q (.ref l) H) := by
  intro pins s σ H x y v u Q I rx ry h
  obtain ⟨l, xs, rfl, rfl, hT, q⟩ := h
  cases rx; obtain ⟨t, rfl⟩ := ry
  obtain ⟨its, r, ⟨⟨cls, dd, data, sl⟩, ho, hc, n, hd⟩, hs⟩ := I.tuple hT
  simp only at hc hd; subst hc hd
  exact wpAny_binaryOp_repeat_ref (T := "tuple") (U := "int") (by decide) ⟨_, ho, rfl⟩ (fun s' => typeIs_int s' 1 t) noFill_tuple_mul F.fills_int_mul F.slot_int_rmul repeat_tuple F.slot_int_index.lookup (call_meets F.slot_int_rmul (typeIs_int s 1 t) F.entry_int_rmul (F.args_int_rmul_2 _ _) (int_rmul_tuple 1 t l its.toArray n dd sl) ⟨ho, rfl, ⟨_, ho, rfl⟩, call_meets F.slot_tuple_mul ⟨_, ho, rfl⟩ F.entry_tuple_mul (F.args_tuple_mul_2 _ _) (mul_once l its.toArray n sl dd t) ⟨ho, ⟨.ref l, H, I, rfl, q⟩⟩⟩)
theorem op_none : OpR X (binaryOp .Mult) (fun x y H Q => ∃ l k xs, x = .ref l ∧ y = .int k ∧ SqT X.K H l xs ∧ xs ≠ [] ∧ k ≤ 0 ∧ -1000 ≤ k ∧ ∀ p, H p = none → Q (.ref p) (upd H p (.tup []))) := by
  intro pins s σ H x y v u Q I rx ry h
  obtain ⟨l, k, xs, rfl, rfl, hT, hne, h0, h1, q⟩ := h
  cases rx; obtain ⟨t, rfl⟩ := ry
  obtain ⟨its, r, ⟨⟨cls, dd, data, sl⟩, ho, hc, n, hd⟩, hs⟩ := I.tuple hT
  simp only at hc hd; subst hc hd
  have hi : its.toArray.isEmpty = false := by
    have := r.length
    cases its with
    | nil => exact absurd (List.eq_nil_of_length_eq_zero this) hne
    | cons _ _ => rfl
  exact wpAny_binaryOp_repeat_ref (T := "tuple") (U := "int") (by decide) ⟨_, ho, rfl⟩ (fun s' => typeIs_int s' k t) noFill_tuple_mul F.fills_int_mul F.slot_int_rmul repeat_tuple F.slot_int_index.lookup (call_meets F.slot_int_rmul (typeIs_int s k t) F.entry_int_rmul (F.args_int_rmul_2 _ _) (int_rmul_tuple k t l its.toArray n dd sl) ⟨ho, rfl, ⟨_, ho, rfl⟩, call_meets F.slot_tuple_mul ⟨_, ho, rfl⟩ F.entry_tuple_mul (F.args_tuple_mul_2 _ _) (mul_none l its.toArray n sl dd k t h0 h1 hi) ⟨ho, ⟨.ref s.heap.objs.size, _, I.laid (t' := s.toks) (o := .tup []) (fun b ob q => Heap.get?_push_of_some _ q) (Nat.le_refl _) ⟨Nat.zero_le _, [], .nil, IsTup.new _ _⟩, rfl, q _ (I.hok.fresh (Nat.le_refl _))⟩⟩⟩)
end
section
variable {C : Cfg} {K : PySem.W.Frag} {X : Cx} {O0 O O' : List Addr} {H0 H H' H1 : Hp} {σ : L2.St} {ρ : E}
variable {a b c e o : Expr} {es : List Expr} {ta tb te to : TE} {ma mb me mo : M} {t : TA} {n : As} {p p2 pos pos2 apos : Pos}
def fMulT : F2 := fun x y => match x.1, y.1 with
  | .tup (d :: ds), .int k => if -1000 ≤ k ∧ k ≤ 1000 ∧ (d :: ds).length ≤ 1000 then some (.tup (List.replicate k.toNat (d :: ds)).flatten, .pure) else none
  | _, _ => none
theorem vr_repT : VR C (rRepAny K) fMulT := by
  intro O0 O H H' x y rx ry rz c c' e r1 r2 hf Q q
  obtain ⟨d1, f1⟩ := rx; obtain ⟨d2, f2⟩ := ry
  unfold fMulT at hf
  split at hf
  · rename_i d ds k e1 e2
    simp only at e1 e2; subst e1; subst e2
    split at hf
    · rename_i hl
      cases hf
      have r1f := r1
      obtain ⟨p, xs, rfl, h1, h2⟩ := r1.tupE
      cases r2.intE
      have l1 := h2.length
      have hne : xs ≠ [] := fun z => by subst z; simp at l1
      by_cases k2 : 2 ≤ k
      · exact .inl ⟨p, k, xs, rfl, rfl, .inl (.inl h1), hne, k2, hl.2.1, by rw [l1]; exact hl.2.2, fun a ha => q _ _ (Evl.Ex.new ha) (res_tup c' ha (h2.rep _))⟩
      · by_cases k1 : k = 1
        · subst k1
          refine .inr (.inl ⟨p, xs, rfl, rfl, .inl (.inl h1), q _ _ (Evl.Ex.refl _) ?_⟩)
          have e1 : (List.replicate (1 : Int).toNat (d :: ds)).flatten = d :: ds := by simp
          rw [e1]
          cases r1f with | pure w => exact .pure w
        · refine .inr (.inr ⟨p, k, xs, rfl, rfl, .inl (.inl h1), hne, by omega, hl.1, fun a ha => q _ _ (Evl.Ex.new ha) ?_⟩)
          have e0 : k.toNat = 0 := by omega
          rw [e0]
          exact res_tup c' ha .nil
    · cases hf
  · cases hf
theorem de_mulT (hK : X.K = K) (ha : DE C X a ta ma) (hb : DE C X b tb mb) : DE C X (.BinOp a .Mult b pos) (tOp (rRepAny K) ta tb) (mOp fMulT ma mb) := by
  subst hK; exact de_op (op_repT.or (op_once.or op_none)) vr_repT ha hb
end
end Dt

namespace Lw
open PySem L2 Dt
def b__law_numbers : S := (sSeq (sSet 2 (mC (.int 0))) (sSeq (sIf (mB (mOp fGt (mFn fLen (aCons (mVar 0) aNil)) (mC (.int 0)))) (sSet 2 (mOp fIx (mVar 0) (mC (.int 0)))) sNil) (sSeq (sSet 3 (mOp fGe (mVar 2) (mOp fPow (mC (.int 10)) (mC (.int 18))))) (sSeq (sSet 4 (mLst aNil)) (sSeq (sFor (iR1 (aCons (mVar 1) aNil)) (gN 5) (sIf (bAnd (mB (mVar 3)) (mB (mOp fGt (mVar 2) (mC (.int 0))))) (sSeq (sApp 4 (mOp fMod (mVar 2) (mC (.int 1000000)))) (sSet 2 (mOp fDiv (mVar 2) (mC (.int 1000000))))) (sSeq (sSet 6 (mC (.int 13))) (sSeq (sIf (mB (mOp fGt (mFn fLen (aCons (mVar 0) aNil)) (mC (.int 0)))) (sSet 6 (mOp fAdd (mOp fIx (mVar 0) (mOp fMod (mVar 5) (mFn fLen (aCons (mVar 0) aNil)))) (mOp fMul (mC (.int 7919)) (mVar 5)))) sNil) (sApp 4 (mOp fMod (mOp fMod (mOp fMul (mOp fMod (mOp fMul (mVar 6) (mC (.int 48271))) (mC (.int 2147483647))) (mC (.int 69621))) (mC (.int 2147483629))) (mC (.int 1000000)))))))) (sRet (mVar 4)))))))
def f__law_numbers : FD := runF 7 b__law_numbers
def b__law_wires : S := (sSeq (sIf (mB (mOp fEq (mOp fMod (mOp fDiv (mVar 0) (mC (.int 6))) (mC (.int 4))) (mC (.int 1)))) (sRet (mOp fAdd (mOp fMod (mOp fDiv (mVar 0) (mC (.int 24))) (mVar 1)) (mC (.int 1)))) sNil) (sRet (mOp fAdd (mOp fMod (mVar 0) (mC (.int 6))) (mC (.int 1)))))
def f__law_wires : FD := runF 2 b__law_wires
def b__law_many : S := (sSeq (sIf (mB (mOp fEq (mOp fMod (mOp fDiv (mVar 0) (mC (.int 6))) (mC (.int 8))) (mC (.int 1)))) (sRet (mSl (mOp fMul (mVar 1) (mC (.int 40))) pNone (pSome (mC (.int 400))))) sNil) (sRet (mVar 1)))
def f__law_many : FD := runF 2 b__law_many
def b__check_comparer : S := (sSeq (sIf (bOr (bNot (mB (mChain fLe fLt (mC (.int 0)) (mVar 1) (mVar 0)))) (bNot (mB (mChain fLe fLt (mC (.int 0)) (mVar 2) (mVar 0))))) sNo sNil) (sIf (mB (mOp fEq (mVar 1) (mVar 2))) sNo sNil))
def f__check_comparer : FD := runF 3 b__check_comparer
def b1_init : S := (sIf (mB (mOp fLt (mVar 1) (mC (.int 1)))) sNo sNil)
def b2_init : S := (sSet 3 (mFn fTuple (aCons (mLc (iS true (mVar 2)) (gT [4, 5]) bYes (mTup (aCons (mVar 4) (aCons (mVar 5) aNil))) [4, 5]) aNil)))
def b3_init : S := (sFrz 3 (sFor (iS false (mVar 3)) (gTs 2 (gsCons (gN 4) (gsCons (gN 5) gsNil))) (sExpr (mCall f__check_comparer (aCons (mVar 1) (aCons (mVar 4) (aCons (mVar 5) aNil)))))))
def b__law_row : S := (sSeq (sSet 3 (mOp fMod (mOp fIx (mVar 0) (mVar 1)) (mC (.int 4)))) (sSeq (sSet 4 (mLst aNil)) (sSeq (sFor (iR1 (aCons (mVar 2) aNil)) (gN 5) (sSeq (sSet 6 (mOp fIx (mVar 0) (mOp fAdd (mOp fAdd (mVar 1) (mC (.int 1))) (mVar 5)))) (sIf (mB (mOp fEq (mVar 3) (mC (.int 0)))) (sApp 4 (mOp fSub (mOp fMod (mVar 6) (mC (.int 7))) (mC (.int 3)))) (sIf (mB (mOp fEq (mVar 3) (mC (.int 1)))) (sApp 4 (mOp fMod (mVar 6) (mC (.int 2)))) (sIf (mB (mOp fEq (mVar 3) (mC (.int 2)))) (sApp 4 (mOp fAdd (mOp fMul (mOp fSub (mVar 6) (mC (.int 500000))) (mOp fPow (mC (.int 10)) (mC (.int 24)))) (mOp fMod (mVar 6) (mC (.int 3))))) (sApp 4 (mOp fSub (mOp fMod (mVar 6) (mOp fMul (mC (.int 2)) (mVar 2))) (mVar 2)))))))) (sRet (mFn fTuple (aCons (mVar 4) aNil))))))
def f__law_row : FD := runF 7 b__law_row
def b__law_run : S := (sSeq (sSet 2 (mFn fList (aCons (mVar 1) aNil))) (sSeq (sFrz 0 (sFor (iS false (mVar 0)) (gN 3) (sSeq (sSet 4 (mFn fMin2 (aCons (mOp fIx (mVar 2) (mOp fIx (mVar 3) (mC (.int 0)))) (aCons (mOp fIx (mVar 2) (mOp fIx (mVar 3) (mC (.int 1)))) aNil)))) (sSeq (sAsg (mFn fMax2 (aCons (mOp fIx (mVar 2) (mOp fIx (mVar 3) (mC (.int 0)))) (aCons (mOp fIx (mVar 2) (mOp fIx (mVar 3) (mC (.int 1)))) aNil))) (gIx 2 (mOp fIx (mVar 3) (mC (.int 1))))) (sAsg (mVar 4) (gIx 2 (mOp fIx (mVar 3) (mC (.int 0))))))))) (sRet (mFn fTuple (aCons (mVar 2) aNil)))))
def f__law_run : FD := runF 5 b__law_run
def b__law_pairs : S := (sSeq (sSet 4 (mLst aNil)) (sSeq (sIf (mB (mOp fEq (mVar 2) (mC (.int 1)))) (sRet (mVar 4)) sNil) (sSeq (sFor (iR1 (aCons (mOp fMod (mOp fIx (mVar 0) (mVar 1)) (mC (.int 13))) aNil)) (gN 5) (sSeq (sSet 6 (mOp fIx (mVar 0) (mOp fAdd (mOp fAdd (mVar 1) (mC (.int 1))) (mVar 5)))) (sSeq (sSet 7 (mOp fMod (mVar 6) (mVar 2))) (sSeq (sSet 8 (mOp fMod (mOp fDiv (mVar 6) (mVar 2)) (mOp fSub (mVar 2) (mC (.int 1))))) (sSeq (sIf (mB (mOp fGe (mVar 8) (mVar 7))) (sSet 8 (mOp fAdd (mVar 8) (mC (.int 1)))) sNil) (sIf (bAnd (mB (mVar 3)) (mB (mOp fGt (mVar 7) (mVar 8)))) (sApp 4 (mTup (aCons (mVar 8) (aCons (mVar 7) aNil)))) (sApp 4 (mTup (aCons (mVar 7) (aCons (mVar 8) aNil)))))))))) (sRet (mVar 4)))))
def f__law_pairs : FD := runF 9 b__law_pairs
def b__law_is_number : S := (sRet (mAnd (mIsT "int" (mVar 0)) (mNot (mIsT "bool" (mVar 0)))))
def f__law_is_number : FD := runF 1 b__law_is_number
def b__law_is_row : S := (sSeq (sIf (bOr (bNot (mB (mIsT "tuple" (mVar 0)))) (mB (mOp fNe (mFn fLen (aCons (mVar 0) aNil)) (mFn fLen (aCons (mVar 1) aNil))))) (sRet (mC (.bl false))) sNil) (sSeq (sFor (iR1 (aCons (mFn fLen (aCons (mVar 1) aNil)) aNil)) (gN 2) (sIf (bOr (bNot (mB (mCall f__law_is_number (aCons (mOp fIx (mVar 0) (mVar 2)) aNil)))) (mB (mOp fNe (mOp fIx (mVar 0) (mVar 2)) (mOp fIx (mVar 1) (mVar 2))))) (sRet (mC (.bl false))) sNil)) (sRet (mC (.bl true)))))
def f__law_is_row : FD := runF 3 b__law_is_row
def b__law_is_made : S := (sSeq (sIf (bOr (bNot (mB (mIsNet (mVar 0)))) (bOr (bNot (mB (mCall f__law_is_number (aCons (mWires (mVar 0)) aNil)))) (mB (mOp fNe (mWires (mVar 0)) (mVar 1))))) (sRet (mC (.bl false))) sNil) (sSeq (sIf (bOr (bNot (mB (mIsT "tuple" (mComps (mVar 0))))) (mB (mOp fNe (mFn fLen (aCons (mComps (mVar 0)) aNil)) (mFn fLen (aCons (mVar 2) aNil))))) (sRet (mC (.bl false))) sNil) (sSeq (sFor (iR1 (aCons (mFn fLen (aCons (mVar 2) aNil)) aNil)) (gN 3) (sIf (bNot (mB (mCall f__law_is_row (aCons (mOp fIx (mComps (mVar 0)) (mVar 3)) (aCons (mOp fIx (mVar 2) (mVar 3)) aNil))))) (sRet (mC (.bl false))) sNil)) (sRet (mC (.bl true))))))
def f__law_is_made : FD := runF 4 b__law_is_made
def b_Network_run : S := (sSeq (sSet 2 (mFn fList (aCons (mVar 1) aNil))) (sSeq (sFor (iS false (mComps (mVar 0))) (gTs 2 (gsCons (gN 3) (gsCons (gN 4) gsNil))) (sIf (mB (mOp fLt (mOp fIx (mVar 2) (mVar 4)) (mOp fIx (mVar 2) (mVar 3)))) (sAsg (mTup (aCons (mOp fIx (mVar 2) (mVar 4)) (aCons (mOp fIx (mVar 2) (mVar 3)) aNil))) (gTs 2 (gsCons (gIx 2 (mVar 3)) (gsCons (gIx 2 (mVar 4)) gsNil)))) sNil)) (sRet (mFn fTuple (aCons (mVar 2) aNil)))))
def f_Network_run : FD := runF 5 b_Network_run
def b__law_others : S := (sSeq (sSet 3 (mLst (aCons (mTup (aCons (mOp fAdd (mVar 0) (mC (.int 1))) (aCons (mVar 1) aNil))) aNil))) (sSeq (sIf (mB (mOp fGt (mVar 0) (mC (.int 1)))) (sSeq (sApp 3 (mTup (aCons (mVar 0) (aCons (mOp fAdd (mVar 1) (mLst (aCons (mTup (aCons (mC (.int 0)) (aCons (mOp fSub (mVar 0) (mC (.int 1))) aNil))) aNil))) aNil)))) (sApp 3 (mTup (aCons (mVar 0) (aCons (mOp fAdd (mVar 1) (mLst (aCons (mTup (aCons (mOp fSub (mVar 0) (mC (.int 1))) (aCons (mC (.int 0)) aNil))) aNil))) aNil))))) sNil) (sSeq (sIf (mB (mOp fGt (mFn fLen (aCons (mVar 1) aNil)) (mC (.int 0)))) (sSeq (sApp 3 (mTup (aCons (mVar 0) (aCons (mOp fAdd (mSl (mVar 1) pNone (pSome (mVar 2))) (mSl (mVar 1) (pSome (mOp fAdd (mVar 2) (mC (.int 1)))) pNone)) aNil)))) (sSeq (sApp 3 (mTup (aCons (mVar 0) (aCons (mOp fAdd (mOp fAdd (mSl (mVar 1) pNone (pSome (mVar 2))) (mLst (aCons (mOp fIx (mVar 1) (mVar 2)) aNil))) (mSl (mVar 1) (pSome (mVar 2)) pNone)) aNil)))) (sSeq (sApp 3 (mTup (aCons (mVar 0) (aCons (mOp fAdd (mOp fAdd (mSl (mVar 1) pNone (pSome (mVar 2))) (mLst (aCons (mTup (aCons (mOp fIx (mOp fIx (mVar 1) (mVar 2)) (mC (.int 1))) (aCons (mOp fIx (mOp fIx (mVar 1) (mVar 2)) (mC (.int 0))) aNil))) aNil))) (mSl (mVar 1) (pSome (mOp fAdd (mVar 2) (mC (.int 1)))) pNone)) aNil)))) (sIf (bAnd (mB (mOp fLt (mOp fAdd (mVar 2) (mC (.int 1))) (mFn fLen (aCons (mVar 1) aNil)))) (mB (mOp fNe (mOp fIx (mVar 1) (mVar 2)) (mOp fIx (mVar 1) (mOp fAdd (mVar 2) (mC (.int 1))))))) (sApp 3 (mTup (aCons (mVar 0) (aCons (mOp fAdd (mOp fAdd (mSl (mVar 1) pNone (pSome (mVar 2))) (mLst (aCons (mOp fIx (mVar 1) (mOp fAdd (mVar 2) (mC (.int 1)))) (aCons (mOp fIx (mVar 1) (mVar 2)) aNil)))) (mSl (mVar 1) (pSome (mOp fAdd (mVar 2) (mC (.int 2)))) pNone)) aNil)))) sNil)))) sNil) (sRet (mVar 3)))))
def f__law_others : FD := runF 4 b__law_others
def b__law_grown : S := (sSeq (sSet 3 (mLst aNil)) (sSeq (sFrz 0 (sFor (iS false (mVar 0)) (gN 4) (sApp 3 (mOp fMul (mVar 2) (mFn fLen (aCons (mLc (iS true (mVar 1)) (gN 5) (mB (mOp fLe (mVar 5) (mVar 4))) (mVar 5) [5]) aNil)))))) (sRet (mFn fTuple (aCons (mVar 3) aNil)))))
def f__law_grown : FD := runF 6 b__law_grown
def b_mirrored : S := (sSeq (sSet 1 (mOp fSub (mWires (mVar 0)) (mC (.int 1)))) (sRet (mFn fNet (aCons (mWires (mVar 0)) (aCons (mLc (iS true (mComps (mVar 0))) (gT [2, 3]) bYes (mTup (aCons (mOp fSub (mVar 1) (mVar 3)) (aCons (mOp fSub (mVar 1) (mVar 2)) aNil))) [2, 3]) aNil)))))
def f_mirrored : FD := runF 4 b_mirrored
def b_joined : S := (sRet (mFn fNet (aCons (mWires (mVar 0)) (aCons (mOp fAdd (mComps (mVar 0)) (mComps (mVar 1))) aNil))))
def f_joined : FD := runF 2 b_joined
def b_widened : S := (sRet (mFn fNet (aCons (mVar 1) (aCons (mLc (iS true (mComps (mVar 0))) (gT [3, 4]) bYes (mTup (aCons (mOp fAdd (mVar 3) (mVar 2)) (aCons (mOp fAdd (mVar 4) (mVar 2)) aNil))) [3, 4]) aNil))))
def f_widened : FD := runF 5 b_widened
def b__law_bits : S := (sSeq (sSet 2 (mLst aNil)) (sSeq (sFor (iR1 (aCons (mVar 1) aNil)) (gN 3) (sSeq (sApp 2 (mOp fMod (mVar 0) (mC (.int 2)))) (sSet 0 (mOp fDiv (mVar 0) (mC (.int 2)))))) (sRet (mFn fTuple (aCons (mVar 2) aNil)))))
def f__law_bits : FD := runF 4 b__law_bits
def b_is_sorted : S := (sRet (mFn fAll (aCons (mLc (iZ (aCons (mVar 0) (aCons (mSl (mVar 0) (pSome (mC (.int 1))) pNone) aNil))) (gT [1, 2]) bYes (mOp fLe (mVar 1) (mVar 2)) [1, 2]) aNil)))
def f_is_sorted : FD := runF 3 b_is_sorted
def b__law_rises : S := (sRet (mOp fEq (mFn fLen (aCons (mLc (iR2 (aCons (mC (.int 1)) (aCons (mFn fLen (aCons (mVar 0) aNil)) aNil))) (gN 1) (mB (mOp fLt (mOp fIx (mVar 0) (mVar 1)) (mOp fIx (mVar 0) (mOp fSub (mVar 1) (mC (.int 1)))))) (mVar 1) [1]) aNil)) (mC (.int 0))))
def f__law_rises : FD := runF 2 b__law_rises
def b__law_task : S := (sSeq (sSet 3 (mOp fMod (mVar 0) (mC (.int 7)))) (sSeq (sSet 4 (mCall f__law_bits (aCons (mVar 1) (aCons (mVar 2) aNil)))) (sSeq (sIf (bAnd (mB (mOp fEq (mVar 3) (mC (.int 1)))) (mB (mOp fGt (mVar 2) (mC (.int 1))))) (sRet (mTup (aCons (mC (.str "merge")) (aCons (mOp fAdd (mOp fMod (mOp fDiv (mVar 0) (mC (.int 7))) (mOp fSub (mVar 2) (mC (.int 1)))) (mC (.int 1))) aNil)))) sNil) (sSeq (sIf (mB (mOp fEq (mVar 3) (mC (.int 2)))) (sSeq (sSet 5 (mLst (aCons (mC (.int 1)) aNil))) (sSeq (sFor (iR2 (aCons (mC (.int 1)) (aCons (mVar 2) aNil))) (gN 6) (sIf (mB (mOp fEq (mOp fIx (mVar 4) (mVar 6)) (mC (.int 1)))) (sApp 5 (mC (.int 1))) (sAsg (mOp fAdd (mOp fIx (mVar 5) (mNeg (mC (.int 1)))) (mC (.int 1))) (gIx 5 (mNeg (mC (.int 1))))))) (sRet (mTup (aCons (mC (.str "parts")) (aCons (mFn fTuple (aCons (mVar 5) aNil)) aNil)))))) sNil) (sSeq (sIf (mB (mOp fEq (mVar 3) (mC (.int 3)))) (sRet (mTup (aCons (mC (.str "near")) (aCons (mOp fMod (mOp fDiv (mVar 0) (mC (.int 7))) (mVar 2)) aNil)))) sNil) (sSeq (sIf (mB (mOp fEq (mVar 3) (mC (.int 4)))) (sRet (mTup (aCons (mC (.str "bitonic")) aNil))) sNil) (sSeq (sIf (bAnd (mB (mOp fEq (mVar 3) (mC (.int 5)))) (mB (mOp fGt (mVar 2) (mC (.int 1))))) (sRet (mTup (aCons (mC (.str "select")) (aCons (mOp fAdd (mOp fMod (mOp fDiv (mVar 0) (mC (.int 7))) (mOp fSub (mVar 2) (mC (.int 1)))) (mC (.int 1))) aNil)))) sNil) (sSeq (sIf (mB (mOp fEq (mVar 3) (mC (.int 6)))) (sSeq (sSet 7 (mLc (iR1 (aCons (mVar 2) aNil)) (gN 6) (mB (mOp fEq (mOp fIx (mVar 4) (mVar 6)) (mC (.int 1)))) (mVar 6) [6])) (sSeq (sIf (mB (mOp fEq (mFn fLen (aCons (mVar 7) aNil)) (mC (.int 0)))) (sSet 7 (mLst (aCons (mOp fMod (mOp fDiv (mVar 0) (mC (.int 7))) (mVar 2)) aNil))) sNil) (sRet (mTup (aCons (mC (.str "ranks")) (aCons (mFn fTuple (aCons (mVar 7) aNil)) aNil)))))) sNil) (sRet (mTup (aCons (mC (.str "sort")) aNil)))))))))))
def f__law_task : FD := runF 8 b__law_task
def b__law_hill : S := (sSeq (sSet 1 (mC (.bl false))) (sSeq (sFor (iR2 (aCons (mC (.int 1)) (aCons (mFn fLen (aCons (mVar 0) aNil)) aNil))) (gN 2) (sSeq (sIf (mB (mOp fLt (mOp fIx (mVar 0) (mVar 2)) (mOp fIx (mVar 0) (mOp fSub (mVar 2) (mC (.int 1)))))) (sSet 1 (mC (.bl true))) sNil) (sIf (bAnd (mB (mOp fGt (mOp fIx (mVar 0) (mVar 2)) (mOp fIx (mVar 0) (mOp fSub (mVar 2) (mC (.int 1)))))) (mB (mVar 1))) (sRet (mC (.bl false))) sNil))) (sRet (mC (.bl true)))))
def f__law_hill : FD := runF 3 b__law_hill
def b__law_bitonic : S := (sSeq (sFor (iR1 (aCons (mFn fLen (aCons (mVar 0) aNil)) aNil)) (gN 1) (sIf (mB (mCall f__law_hill (aCons (mOp fAdd (mSl (mVar 0) (pSome (mVar 1)) pNone) (mSl (mVar 0) pNone (pSome (mVar 1)))) aNil))) (sRet (mC (.bl true))) sNil)) (sRet (mC (.bl false))))
def f__law_bitonic : FD := runF 2 b__law_bitonic
def b__law_is : S := (sRet (mAnd (mIsT "bool" (mVar 0)) (mOp fEq (mVar 0) (mVar 1))))
def f__law_is : FD := runF 2 b__law_is
def b__has_sorted_parts : S := (sSeq (sSet 2 (mC (.int 0))) (sSeq (sFrz 1 (sFor (iS false (mVar 1)) (gN 3) (sSeq (sIf (bNot (mB (mCall f_is_sorted (aCons (mSl (mVar 0) (pSome (mVar 2)) (pSome (mOp fAdd (mVar 2) (mVar 3)))) aNil)))) (sRet (mC (.bl false))) sNil) (sAug 2 (fun i j => i + j) (mVar 3))))) (sRet (mC (.bl true)))))
def f__has_sorted_parts : FD := runF 4 b__has_sorted_parts
def b__law_exchanged : S := (sSeq (sSet 3 (mFn fList (aCons (mVar 0) aNil))) (sSeq (sAsg (mOp fIx (mVar 0) (mVar 2)) (gIx 3 (mVar 1))) (sSeq (sAsg (mOp fIx (mVar 0) (mVar 1)) (gIx 3 (mVar 2))) (sRet (mFn fTuple (aCons (mVar 3) aNil))))))
def f__law_exchanged : FD := runF 4 b__law_exchanged
def b__law_few : S := (sSeq (sIf (mB (mOp fEq (mOp fMod (mOp fDiv (mVar 0) (mC (.int 6))) (mC (.int 8))) (mC (.int 1)))) (sRet (mOp fAdd (mOp fMod (mOp fDiv (mVar 0) (mC (.int 48))) (mC (.int 2))) (mC (.int 7)))) sNil) (sRet (mOp fAdd (mOp fMod (mVar 0) (mC (.int 6))) (mC (.int 1)))))
def f__law_few : FD := runF 1 b__law_few
def b__law_is_rows : S := (sSeq (sIf (bOr (bNot (mB (mIsT "list" (mVar 0)))) (mB (mOp fNe (mFn fLen (aCons (mVar 0) aNil)) (mFn fLen (aCons (mVar 1) aNil))))) (sRet (mC (.bl false))) sNil) (sSeq (sFor (iR1 (aCons (mFn fLen (aCons (mVar 1) aNil)) aNil)) (gN 2) (sIf (bNot (mB (mCall f__law_is_row (aCons (mOp fIx (mVar 0) (mVar 2)) (aCons (mOp fIx (mVar 1) (mVar 2)) aNil))))) (sRet (mC (.bl false))) sNil)) (sRet (mC (.bl true)))))
def f__law_is_rows : FD := runF 3 b__law_is_rows
def b__law_plain : S := (sSeq (sSet 1 (mLst (aCons (mTup aNil) aNil))) (sSeq (sFor (iR1 (aCons (mVar 0) aNil)) (gN 2) (sSeq (sSet 3 (mLst aNil)) (sSeq (sFrz 1 (sFor (iS false (mVar 1)) (gN 4) (sSet 3 (mOp fAdd (mVar 3) (mLst (aCons (mOp fAdd (mVar 4) (mTup (aCons (mC (.int 0)) aNil))) (aCons (mOp fAdd (mVar 4) (mTup (aCons (mC (.int 1)) aNil))) aNil))))))) (sFrz 3 (sSet 1 (mVar 3)))))) (sRet (mVar 1))))
def f__law_plain : FD := runF 5 b__law_plain
def b__law_ladder : S := (sSeq (sSet 3 (mLst aNil)) (sSeq (sIf (mB (mOp fEq (mVar 0) (mC (.int 4)))) (sFor (iR3 (aCons (mOp fSub (mVar 1) (mC (.int 1))) (aCons (mC (.int 0)) (aCons (mNeg (mC (.int 1))) aNil)))) (gN 4) (sSet 3 (mOp fAdd (mVar 3) (mLc (iR1 (aCons (mVar 4) aNil)) (gN 7) bYes (mTup (aCons (mVar 7) (aCons (mOp fAdd (mVar 7) (mC (.int 1))) aNil))) [7])))) (sIf (mB (mOp fEq (mVar 0) (mC (.int 5)))) (sFor (iR1 (aCons (mVar 2) aNil)) (gN 5) (sSet 3 (mOp fAdd (mVar 3) (mLc (iR1 (aCons (mOp fSub (mVar 1) (mC (.int 1))) aNil)) (gN 7) (mB (mOp fEq (mOp fMod (mOp fAdd (mVar 7) (mVar 5)) (mC (.int 2))) (mC (.int 0)))) (mTup (aCons (mVar 7) (aCons (mOp fAdd (mVar 7) (mC (.int 1))) aNil))) [7])))) (sFor (iR2 (aCons (mC (.int 1)) (aCons (mVar 1) aNil))) (gN 6) (sSet 3 (mOp fAdd (mVar 3) (mLc (iR3 (aCons (mVar 6) (aCons (mC (.int 0)) (aCons (mNeg (mC (.int 1))) aNil)))) (gN 7) bYes (mTup (aCons (mOp fSub (mVar 7) (mC (.int 1))) (aCons (mVar 7) aNil))) [7])))))) (sRet (mVar 3))))
def f__law_ladder : FD := runF 8 b__law_ladder
def b__law_standard : S := (sSeq (sSet 3 (mOp fMod (mOp fIx (mVar 0) (mVar 1)) (mC (.int 6)))) (sSeq (sSet 4 (mCall f__law_ladder (aCons (mVar 3) (aCons (mVar 2) (aCons (mOp fMod (mOp fDiv (mOp fIx (mVar 0) (mVar 1)) (mC (.int 6))) (mOp fAdd (mVar 2) (mC (.int 1)))) aNil))))) (sSeq (sSet 5 (mOp fMod (mOp fDiv (mOp fIx (mVar 0) (mVar 1)) (mC (.int 6))) (mOp fAdd (mFn fLen (aCons (mVar 4) aNil)) (mC (.int 1))))) (sSeq (sIf (mB (mOp fEq (mVar 3) (mC (.int 0)))) (sRet (mCall f__law_pairs (aCons (mVar 0) (aCons (mOp fAdd (mVar 1) (mC (.int 1))) (aCons (mVar 2) (aCons (mC (.bl true)) aNil)))))) sNil) (sSeq (sIf (mB (mOp fEq (mVar 3) (mC (.int 2)))) (sRet (mOp fAdd (mSl (mVar 4) pNone (pSome (mVar 5))) (mSl (mVar 4) (pSome (mOp fAdd (mVar 5) (mC (.int 1)))) pNone))) sNil) (sSeq (sIf (mB (mOp fEq (mVar 3) (mC (.int 3)))) (sRet (mSl (mVar 4) (pSome (mVar 5)) pNone)) sNil) (sSeq (sIf (mB (mOp fEq (mVar 3) (mC (.int 4)))) (sRet (mSl (mVar 4) pNone (pSome (mVar 5)))) sNil) (sRet (mVar 4)))))))))
def f__law_standard : FD := runF 6 b__law_standard
def b__law_unsorted : S := (sSeq (sSet 2 (mCall f__law_bits (aCons (mVar 0) (aCons (mVar 1) aNil)))) (sSeq (sIf (mB (mCall f__law_rises (aCons (mVar 2) aNil))) (sSet 2 (mOp fAdd (mOp fAdd (mTup (aCons (mC (.int 1)) aNil)) (mSl (mVar 2) (pSome (mC (.int 1))) (pSome (mNeg (mC (.int 1)))))) (mTup (aCons (mC (.int 0)) aNil)))) sNil) (sRet (mVar 2))))
def f__law_unsorted : FD := runF 3 b__law_unsorted
def b__law_orders : S := (sSeq (sSet 1 (mLst (aCons (mTup aNil) aNil))) (sSeq (sFor (iR1 (aCons (mVar 0) aNil)) (gN 2) (sSeq (sSet 3 (mLst aNil)) (sSeq (sFrz 1 (sFor (iS false (mVar 1)) (gN 4) (sSet 3 (mOp fAdd (mVar 3) (mLc (iR1 (aCons (mOp fAdd (mVar 2) (mC (.int 1))) aNil)) (gN 5) bYes (mOp fAdd (mOp fAdd (mSl (mVar 4) pNone (pSome (mVar 5))) (mTup (aCons (mVar 2) aNil))) (mSl (mVar 4) (pSome (mVar 5)) pNone)) [5]))))) (sFrz 3 (sSet 1 (mVar 3)))))) (sRet (mVar 1))))
def f__law_orders : FD := runF 6 b__law_orders
def b_Network_is_standard : S := (sRet (mFn fAll (aCons (mLc (iS true (mComps (mVar 0))) (gT [1, 2]) bYes (mOp fLt (mVar 1) (mVar 2)) [1, 2]) aNil)))
def f_Network_is_standard : FD := runF 3 b_Network_is_standard
def b__law_turned : S := (sRet (mFn fTuple (aCons (mLc (iRv true (mVar 0)) (gN 1) bYes (mNeg (mVar 1)) [1]) aNil)))
def f__law_turned : FD := runF 2 b__law_turned
def b_Network___eq__ : S := (sRet (mAnd (mIsNet (mVar 1)) (mAnd (mOp fEq (mWires (mVar 0)) (mWires (mVar 1))) (mOp fEq (mComps (mVar 0)) (mComps (mVar 1))))))
def f_Network___eq__ : FD := runF 2 b_Network___eq__
def b__law_order : S := (sSeq (sSet 2 (fRng1 (fun ds => (.lst ds, .fresh)) (mVar 1))) (sSeq (sSet 3 (mLst aNil)) (sSeq (sFor (iR1 (aCons (mVar 1) aNil)) (gN 4) (sSeq (sSet 5 (mOp fMod (mVar 0) (mFn fLen (aCons (mVar 2) aNil)))) (sSeq (sSet 0 (mOp fDiv (mVar 0) (mFn fLen (aCons (mVar 2) aNil)))) (sSeq (sApp 3 (mOp fIx (mVar 2) (mVar 5))) (sSet 2 (mOp fAdd (mSl (mVar 2) pNone (pSome (mVar 5))) (mSl (mVar 2) (pSome (mOp fAdd (mVar 5) (mC (.int 1)))) pNone))))))) (sRet (mFn fTuple (aCons (mVar 3) aNil))))))
def f__law_order : FD := runF 6 b__law_order
def b_renamed : S := (sRet (mFn fNet (aCons (mWires (mVar 0)) (aCons (mLc (iS true (mComps (mVar 0))) (gT [2, 3]) bYes (mTup (aCons (mOp fIx (mVar 1) (mVar 2)) (aCons (mOp fIx (mVar 1) (mVar 3)) aNil))) [2, 3]) aNil))))
def f_renamed : FD := runF 4 b_renamed
def b__law_moved : S := (sSeq (sSet 2 (mFn fList (aCons (mVar 1) aNil))) (sSeq (sFor (iR1 (aCons (mFn fLen (aCons (mVar 0) aNil)) aNil)) (gN 3) (sAsg (mOp fIx (mVar 1) (mVar 3)) (gIx 2 (mOp fIx (mVar 0) (mVar 3))))) (sRet (mFn fTuple (aCons (mVar 2) aNil)))))
def f__law_moved : FD := runF 4 b__law_moved
def b_straight : S := (sSeq (sSet 1 (fRng1 (fun ds => (.lst ds, .fresh)) (mWires (mVar 0)))) (sSeq (sSet 2 (mLst aNil)) (sSeq (sFor (iS false (mComps (mVar 0))) (gTs 2 (gsCons (gN 3) (gsCons (gN 4) gsNil))) (sSeq (sIf (mB (mOp fLt (mOp fIx (mVar 1) (mVar 4)) (mOp fIx (mVar 1) (mVar 3)))) (sAsg (mTup (aCons (mOp fIx (mVar 1) (mVar 4)) (aCons (mOp fIx (mVar 1) (mVar 3)) aNil))) (gTs 2 (gsCons (gIx 1 (mVar 3)) (gsCons (gIx 1 (mVar 4)) gsNil)))) sNil) (sApp 2 (mTup (aCons (mOp fIx (mVar 1) (mVar 3)) (aCons (mOp fIx (mVar 1) (mVar 4)) aNil)))))) (sRet (mTup (aCons (mFn fNet (aCons (mWires (mVar 0)) (aCons (mVar 2) aNil))) (aCons (mFn fTuple (aCons (mVar 1) aNil)) aNil)))))))
def f_straight : FD := runF 5 b_straight
def b__law_acting : S := (sSeq (sSet 2 (mFn fList (aCons (mVar 1) aNil))) (sSeq (sSet 3 (mLst aNil)) (sSeq (sFor (iR1 (aCons (mFn fLen (aCons (mVar 0) aNil)) aNil)) (gN 4) (sSeq (sIf (mB (mOp fGt (mOp fIx (mVar 2) (mOp fIx (mOp fIx (mVar 0) (mVar 4)) (mC (.int 0)))) (mOp fIx (mVar 2) (mOp fIx (mOp fIx (mVar 0) (mVar 4)) (mC (.int 1)))))) (sApp 3 (mVar 4)) sNil) (sSet 2 (mFn fList (aCons (mCall f__law_run (aCons (mLst (aCons (mOp fIx (mVar 0) (mVar 4)) aNil)) (aCons (mVar 2) aNil))) aNil))))) (sRet (mVar 3)))))
def f__law_acting : FD := runF 5 b__law_acting
def b__law_near : S := (sSeq (sSet 2 (mFn fSorted (aCons (mVar 0) aNil))) (sSeq (sFor (iR1 (aCons (mFn fLen (aCons (mVar 0) aNil)) aNil)) (gN 3) (sSeq (sSet 4 (mSl (mVar 2) (pSome (mFn fMax2 (aCons (mC (.int 0)) (aCons (mOp fSub (mVar 3) (mVar 1)) aNil)))) (pSome (mOp fAdd (mOp fAdd (mVar 3) (mVar 1)) (mC (.int 1)))))) (sIf (mB (mOp (fun x y => (fInF true x y).or (fNotIn x y)) (mOp fIx (mVar 0) (mVar 3)) (mVar 4))) (sRet (mC (.bl false))) sNil))) (sRet (mC (.bl true)))))
def f__law_near : FD := runF 5 b__law_near
def b__law_asked : S := (sSeq (sIf (mB (mOp fEq (mOp fIx (mVar 0) (mC (.int 0))) (mC (.str "merge")))) (sRet (mAnd (mCall f__law_rises (aCons (mSl (mVar 1) pNone (pSome (mOp fIx (mVar 0) (mC (.int 1))))) aNil)) (mCall f__law_rises (aCons (mSl (mVar 1) (pSome (mOp fIx (mVar 0) (mC (.int 1)))) pNone) aNil)))) sNil) (sSeq (sIf (mB (mOp fEq (mOp fIx (mVar 0) (mC (.int 0))) (mC (.str "parts")))) (sSeq (sSet 2 (mC (.int 0))) (sSeq (sFor (iS false (mOp fIx (mVar 0) (mC (.int 1)))) (gN 3) (sSeq (sIf (bNot (mB (mCall f__law_rises (aCons (mSl (mVar 1) (pSome (mVar 2)) (pSome (mOp fAdd (mVar 2) (mVar 3)))) aNil)))) (sRet (mC (.bl false))) sNil) (sSet 2 (mOp fAdd (mVar 2) (mVar 3))))) (sRet (mC (.bl true))))) sNil) (sSeq (sIf (mB (mOp fEq (mOp fIx (mVar 0) (mC (.int 0))) (mC (.str "near")))) (sRet (mCall f__law_near (aCons (mVar 1) (aCons (mOp fIx (mVar 0) (mC (.int 1))) aNil)))) sNil) (sSeq (sIf (mB (mOp fEq (mOp fIx (mVar 0) (mC (.int 0))) (mC (.str "bitonic")))) (sRet (mCall f__law_bitonic (aCons (mVar 1) aNil))) sNil) (sRet (mC (.bl true)))))))
def f__law_asked : FD := runF 4 b__law_asked
def b__law_fit : S := (sSeq (sIf (mB (mCall f__law_asked (aCons (mVar 0) (aCons (mVar 1) aNil)))) (sRet (mVar 1)) sNil) (sSeq (sSet 3 (mFn fSorted (aCons (mVar 1) aNil))) (sSeq (sSet 4 (mLst aNil)) (sSeq (sIf (mB (mOp fEq (mOp fIx (mVar 0) (mC (.int 0))) (mC (.str "merge")))) (sSet 4 (mOp fAdd (mFn fSorted (aCons (mSl (mVar 1) pNone (pSome (mOp fIx (mVar 0) (mC (.int 1))))) aNil)) (mFn fSorted (aCons (mSl (mVar 1) (pSome (mOp fIx (mVar 0) (mC (.int 1)))) pNone) aNil)))) sNil) (sSeq (sIf (mB (mOp fEq (mOp fIx (mVar 0) (mC (.int 0))) (mC (.str "parts")))) (sSeq (sSet 5 (mC (.int 0))) (sFor (iS false (mOp fIx (mVar 0) (mC (.int 1)))) (gN 6) (sSeq (sSet 4 (mOp fAdd (mVar 4) (mFn fSorted (aCons (mSl (mVar 1) (pSome (mVar 5)) (pSome (mOp fAdd (mVar 5) (mVar 6)))) aNil)))) (sSet 5 (mOp fAdd (mVar 5) (mVar 6)))))) sNil) (sSeq (sIf (mB (mOp fEq (mOp fIx (mVar 0) (mC (.int 0))) (mC (.str "near")))) (sSeq (sSet 5 (mC (.int 0))) (sFor (iR1 (aCons (mFn fLen (aCons (mVar 1) aNil)) aNil)) (gN 7) (sSeq (sSet 10 (mSl (mVar 3) (pSome (mVar 5)) (pSome (mOp fAdd (mOp fAdd (mVar 5) (mOp fIx (mVar 0) (mC (.int 1)))) (mC (.int 1)))))) (sSeq (sSet 9 (mOp fMod (mOp fDiv (mVar 2) (mOp fAdd (mVar 7) (mC (.int 1)))) (mOp fAdd (mOp fIx (mVar 0) (mC (.int 1))) (mC (.int 1))))) (sSeq (sSet 4 (mOp fAdd (mOp fAdd (mVar 4) (mSl (mVar 10) (pSome (mVar 9)) pNone)) (mSl (mVar 10) pNone (pSome (mVar 9))))) (sSet 5 (mOp fAdd (mOp fAdd (mVar 5) (mOp fIx (mVar 0) (mC (.int 1)))) (mC (.int 1))))))))) sNil) (sSeq (sIf (mB (mOp fEq (mOp fIx (mVar 0) (mC (.int 0))) (mC (.str "bitonic")))) (sSeq (sSet 8 (mCall f__law_bits (aCons (mVar 2) (aCons (mFn fLen (aCons (mVar 1) aNil)) aNil)))) (sSeq (sSet 4 (mLc (iR1 (aCons (mFn fLen (aCons (mVar 1) aNil)) aNil)) (gN 7) (mB (mOp fEq (mOp fIx (mVar 8) (mVar 7)) (mC (.int 1)))) (mOp fIx (mVar 3) (mVar 7)) [7])) (sSeq (sSet 4 (mOp fAdd (mVar 4) (mLc (iR3 (aCons (mOp fSub (mFn fLen (aCons (mVar 1) aNil)) (mC (.int 1))) (aCons (mNeg (mC (.int 1))) (aCons (mNeg (mC (.int 1))) aNil)))) (gN 7) (mB (mOp fEq (mOp fIx (mVar 8) (mVar 7)) (mC (.int 0)))) (mOp fIx (mVar 3) (mVar 7)) [7]))) (sSeq (sSet 9 (mOp fMod (mOp fDiv (mVar 2) (mC (.int 7))) (mFn fLen (aCons (mVar 1) aNil)))) (sSet 4 (mOp fAdd (mSl (mVar 4) (pSome (mVar 9)) pNone) (mSl (mVar 4) pNone (pSome (mVar 9))))))))) sNil) (sRet (mFn fTuple (aCons (mVar 4) aNil))))))))))
def f__law_fit : FD := runF 11 b__law_fit
def b__is_near : S := (sSeq (sSet 2 (mFn fSorted (aCons (mVar 0) aNil))) (sSeq (sSet 3 (mLc (iR1 (aCons (mFn fLen (aCons (mVar 0) aNil)) aNil)) (gN 4) bYes (mSl (mVar 2) (pSome (mFn fMax2 (aCons (mC (.int 0)) (aCons (mOp fSub (mVar 4) (mVar 1)) aNil)))) (pSome (mOp fAdd (mOp fAdd (mVar 4) (mVar 1)) (mC (.int 1))))) [4])) (sRet (mFn fAll (aCons (mLc (iZ (aCons (mVar 0) (aCons (mVar 3) aNil))) (gT [5, 6]) bYes (mOp (fun x y => (fInF false x y).or (fIn x y)) (mVar 5) (mVar 6)) [5, 6]) aNil)))))
def f__is_near : FD := runF 7 b__is_near
def b__law_right : S := (sSeq (sSet 3 (mFn fSorted (aCons (mVar 1) aNil))) (sSeq (sIf (mB (mOp fEq (mOp fIx (mVar 0) (mC (.int 0))) (mC (.str "select")))) (sSeq (sFor (iS false (mSl (mVar 2) pNone (pSome (mOp fIx (mVar 0) (mC (.int 1)))))) (gN 4) (sFor (iS false (mSl (mVar 2) (pSome (mOp fIx (mVar 0) (mC (.int 1)))) pNone)) (gN 6) (sIf (mB (mOp fLt (mVar 6) (mVar 4))) (sRet (mC (.bl false))) sNil))) (sRet (mC (.bl true)))) sNil) (sSeq (sIf (mB (mOp fEq (mOp fIx (mVar 0) (mC (.int 0))) (mC (.str "ranks")))) (sSeq (sFor (iS false (mOp fIx (mVar 0) (mC (.int 1)))) (gN 5) (sIf (mB (mOp fNe (mOp fIx (mVar 2) (mVar 5)) (mOp fIx (mVar 3) (mVar 5)))) (sRet (mC (.bl false))) sNil)) (sRet (mC (.bl true)))) sNil) (sRet (mCall f__law_rises (aCons (mVar 2) aNil))))))
def f__law_right : FD := runF 7 b__law_right
def b__law_is_needed : S := (sSeq (sIf (mB (mCall f__law_rises (aCons (mVar 1) aNil))) (sRet (mC (.bl false))) sNil) (sSeq (sSet 2 (mFn fLen (aCons (mLc (iS true (mVar 1)) (gN 3) (mB (mOp fEq (mVar 3) (mC (.int 0)))) (mVar 3) [3]) aNil))) (sSeq (sIf (mB (mOp fEq (mOp fIx (mVar 0) (mC (.int 0))) (mC (.str "select")))) (sRet (mOp fEq (mVar 2) (mOp fIx (mVar 0) (mC (.int 1))))) sNil) (sSeq (sIf (mB (mOp fEq (mOp fIx (mVar 0) (mC (.int 0))) (mC (.str "ranks")))) (sRet (mOp fGt (mFn fLen (aCons (mLc (iS true (mOp fIx (mVar 0) (mC (.int 1)))) (gN 4) (bOr (mB (mOp fEq (mVar 2) (mVar 4))) (mB (mOp fEq (mVar 2) (mOp fAdd (mVar 4) (mC (.int 1)))))) (mVar 4) [4]) aNil)) (mC (.int 0)))) sNil) (sRet (mCall f__law_asked (aCons (mVar 0) (aCons (mVar 1) aNil))))))))
def f__law_is_needed : FD := runF 5 b__law_is_needed
def b_plain_rows : S := (sSeq (sSet 1 (mLst (aCons (mTup aNil) aNil))) (sSeq (sFor (iR1 (aCons (mVar 0) aNil)) (gN 2) (sSet 1 (mLc2 (iS true (mVar 1)) (gN 3) bYes (iS false (mTup (aCons (mC (.int 0)) (aCons (mC (.int 1)) aNil)))) (gN 4) bYes (mOp fAdd (mVar 3) (mTup (aCons (mVar 4) aNil))) [3, 4] [4]))) (sRet (mVar 1))))
def f_plain_rows : FD := runF 5 b_plain_rows
def b__is_selected : S := (sRet (mFn fAll (aCons (mLc2 (iS true (mSl (mVar 0) pNone (pSome (mVar 1)))) (gN 2) bYes (iS false (mSl (mVar 0) (pSome (mVar 1)) pNone)) (gN 3) bYes (mOp fLe (mVar 2) (mVar 3)) [2, 3] [3]) aNil)))
def f__is_selected : FD := runF 4 b__is_selected
def b_right : S := (sSeq (sSet 3 (mOp fIx (mVar 0) (mC (.int 0)))) (sSeq (sIf (mB (mOp fEq (mVar 3) (mC (.str "select")))) (sRet (mCall f__is_selected (aCons (mVar 2) (aCons (mOp fIx (mVar 0) (mC (.int 1))) aNil)))) sNil) (sSeq (sIf (mB (mOp fEq (mVar 3) (mC (.str "ranks")))) (sSeq (sSet 4 (mFn fSorted (aCons (mVar 1) aNil))) (sRet (mFn fAll (aCons (mLc (iS true (mOp fIx (mVar 0) (mC (.int 1)))) (gN 5) bYes (mOp fEq (mOp fIx (mVar 2) (mVar 5)) (mOp fIx (mVar 4) (mVar 5))) [5]) aNil)))) sNil) (sRet (mCall f_is_sorted (aCons (mVar 2) aNil))))))
def f_right : FD := runF 6 b_right
def b_parted : S := (sSeq (sFor (iS false (mCall f_plain_rows (aCons (mWires (mVar 0)) aNil))) (gN 2) (sIf (mB (mOp fNe (mMeth f_Network_run (mVar 0) (aCons (mVar 2) aNil)) (mMeth f_Network_run (mVar 1) (aCons (mVar 2) aNil)))) (sRet (mVar 2)) sNil)) (sRet (mC .non)))
def f_parted : FD := runF 3 b_parted
def b__law_last : S := (sSeq (sSet 1 (mFn fLen (aCons (mLc (iS true (mVar 0)) (gN 2) (mB (mOp fEq (mVar 2) (mC (.int 0)))) (mVar 2) [2]) aNil))) (sRet (mOp fAdd (mOp fAdd (mOp fMulT (mTup (aCons (mC (.int 0)) aNil)) (mOp fSub (mVar 1) (mC (.int 1)))) (mTup (aCons (mC (.int 1)) (aCons (mC (.int 0)) aNil)))) (mOp fMulT (mTup (aCons (mC (.int 1)) aNil)) (mOp fSub (mOp fSub (mFn fLen (aCons (mVar 0) aNil)) (mVar 1)) (mC (.int 1)))))))
def f__law_last : FD := runF 3 b__law_last
def b__law_some_rows : S := (sSeq (sIf (mB (mOp fLe (mVar 1) (mC (.int 6)))) (sRet (mCall f__law_plain (aCons (mVar 1) aNil))) sNil) (sSeq (sSet 2 (mLst aNil)) (sSeq (sFor (iR1 (aCons (mOp fAdd (mVar 1) (mC (.int 1))) aNil)) (gN 3) (sApp 2 (mOp fAdd (mOp fMulT (mTup (aCons (mC (.int 1)) aNil)) (mOp fSub (mVar 1) (mVar 3))) (mOp fMulT (mTup (aCons (mC (.int 0)) aNil)) (mVar 3))))) (sSeq (sFor (iR1 (aCons (mC (.int 8)) aNil)) (gN 4) (sApp 2 (mFn fTuple (aCons (mLc (iR1 (aCons (mVar 1) aNil)) (gN 5) bYes (mOp fMod (mOp fDiv (mOp fIx (mVar 0) (mOp fAdd (mC (.int 18)) (mVar 4))) (mOp fIx (mLst (aCons (mC (.int 1)) (aCons (mC (.int 2)) (aCons (mC (.int 4)) (aCons (mC (.int 8)) (aCons (mC (.int 16)) (aCons (mC (.int 32)) (aCons (mC (.int 64)) (aCons (mC (.int 128)) (aCons (mC (.int 256)) (aCons (mC (.int 512)) (aCons (mC (.int 1024)) (aCons (mC (.int 2048)) aNil))))))))))))) (mVar 5))) (mC (.int 2))) [5]) aNil)))) (sRet (mVar 2))))))
def f__law_some_rows : FD := runF 6 b__law_some_rows
end Lw
set_option maxRecDepth 100000
set_option maxHeartbeats 4000000
namespace Lw
open PySem L2 Dt

/-! ### loops -/
theorem forGo_inv {g : D → E → Option E} {m : S} (Inv : Nat → E → Prop) : ∀ (ds : List D) (i : Nat) (ρ : E), Inv i ρ →
    (∀ j d ρ, ds[j]? = some d → Inv (i + j) ρ → ∃ ρ1 ρ2, g d ρ = some ρ1 ∧ m ρ1 = some (.nx ρ2) ∧ Inv (i + j + 1) ρ2) → ∃ ρ', forGo g m ds ρ = some (.nx ρ') ∧ Inv (i + ds.length) ρ'
  | [], i, ρ, h, _ => ⟨ρ, rfl, by simpa using h⟩
  | d :: ds, i, ρ, h, st => by
    obtain ⟨ρ1, ρ2, e1, e2, h2⟩ := st 0 d ρ rfl (by simpa using h)
    obtain ⟨ρ', e3, h3⟩ := forGo_inv Inv ds (i + 1) ρ2 (by simpa using h2) fun j d' ρ hd hi => by
      obtain ⟨r1, r2, q1, q2, q3⟩ := st (j + 1) d' ρ (by simpa using hd) (by rw [show i + (j + 1) = i + 1 + j by omega]; exact hi)
      exact ⟨r1, r2, q1, q2, by rw [show i + 1 + j + 1 = i + (j + 1) + 1 by omega]; exact q3⟩
    refine ⟨ρ', ?_, by rw [List.length_cons, show i + (ds.length + 1) = i + 1 + ds.length by omega]; exact h3⟩
    unfold forGo
    rw [e1]
    show ((m ρ1).bind fun o => match o with | .nx ρ2 => forGo g m ds ρ2 | .rt d f => some (.rt d f)) = _
    rw [e2]
    exact e3
theorem forGo0 {g : D → E → Option E} {m : S} (Inv : Nat → E → Prop) {ds : List D} {ρ : E} (h : Inv 0 ρ)
    (st : ∀ j d ρ, ds[j]? = some d → Inv j ρ → ∃ ρ1 ρ2, g d ρ = some ρ1 ∧ m ρ1 = some (.nx ρ2) ∧ Inv (j + 1) ρ2) : ∃ ρ', forGo g m ds ρ = some (.nx ρ') ∧ Inv ds.length ρ' := by
  have := forGo_inv Inv ds 0 ρ h (by simpa using st)
  simpa using this
theorem rng_get {n j : Nat} {d : D} {lo : Int} (h : (rngD lo n)[j]? = some d) : j < n ∧ d = .int (lo + j) := by
  unfold rngD at h
  rw [List.getElem?_map] at h
  cases hr : (List.range n)[j]? with
  | none => rw [hr] at h; cases h
  | some k =>
    rw [hr] at h
    obtain ⟨hlt, ek⟩ := List.getElem?_eq_some_iff.mp hr
    simp only [List.getElem_range] at ek
    simp only [List.length_range] at hlt
    subst ek
    cases h
    exact ⟨hlt, rfl⟩
theorem rng_len {n : Nat} {lo : Int} : (rngD lo n).length = n := by unfold rngD; simp
theorem atI_map {α β : Type} {f : α → β} {xs : List α} {i : Int} : atI (xs.map f) i = (atI xs i).map f := by
  unfold atI
  rw [List.length_map]
  cases ixN xs.length i with
  | none => rfl
  | some j => simp [Option.bind]
theorem atI_lt {α : Type} {xs : List α} {j : Nat} (h : j < xs.length) : atI xs (j : Int) = some xs[j] := atI_nat (List.getElem?_eq_getElem h)
theorem atI_get' {α : Type} {xs : List α} {i : Int} (h0 : 0 ≤ i) (h : i.toNat < xs.length) : atI xs i = some xs[i.toNat] := by
  have := atI_lt h
  rwa [Int.toNat_of_nonneg h0] at this


theorem seq_nx {m n : S} {ρ ρ' : E} (h : m ρ = some (.nx ρ')) : sSeq m n ρ = n ρ' := by unfold sSeq; rw [h]; rfl
theorem seq_rt {m n : S} {ρ : E} {d : D} {f : Bool} (h : m ρ = some (.rt d f)) : sSeq m n ρ = some (.rt d f) := by unfold sSeq; rw [h]; rfl
theorem for_ok {mi : I} {g : D → E → Option E} {m : S} {ρ : E} {ds : List D} (h : mi ρ = some ds) : sFor mi g m ρ = forGo g m ds ρ := by unfold sFor; rw [h]; rfl
theorem iR1f_int {j : Int} {a : Fl} (h0 : 0 ≤ j) (h : j ≤ 100000) : iR1f [(.int j, a)] = some (rngD 0 j.toNat) := by
  have h2 : (2 : Int) ^ 62 = 4611686018427387904 := by decide
  unfold iR1f
  simp only []
  have : -(2 ^ 62) ≤ j ∧ j < 2 ^ 62 := by rw [h2]; exact ⟨by omega, by omega⟩
  rw [if_pos this]
theorem iR1_ok {n : As} {ρ : E} {count : Nat} {a : Fl} (h : n ρ = some [(.int count, a)]) (hc : count ≤ 100000) : iR1 n ρ = some (rngD 0 count) := by
  unfold iR1
  rw [h, Option.bind_some]
  have h1 : 0 ≤ (count : Int) := Int.natCast_nonneg _
  have h2 : (count : Int) ≤ 100000 := by omega
  exact (iR1f_int h1 h2).trans (congrArg (fun k => some (rngD 0 k)) (Int.toNat_natCast count))
theorem zero_add_nat {j : Nat} : (0 : Int) + (j : Int) = (j : Int) := Int.zero_add _
section
variable {i j : Int} {a b : Fl}
theorem fAdd_int : fAdd (.int i, a) (.int j, b) = some (.int (i + j), .pure) := rfl
theorem fSub_int : fSub (.int i, a) (.int j, b) = some (.int (i - j), .pure) := rfl
theorem fMul_r (h : -(2 ^ 64) < j ∧ j < 2 ^ 64) : fMul (.int i, a) (.int j, b) = some (.int (i * j), .pure) := by
  have : CMul i j := .inr h
  show ((if CMul i j then some (D.int (i * j)) else none).map fun d => (d, Fl.pure)).or _ = _
  rw [if_pos this]; rfl
theorem fMul_l (h : -(2 ^ 64) < i ∧ i < 2 ^ 64) : fMul (.int i, a) (.int j, b) = some (.int (i * j), .pure) := by
  have : CMul i j := .inl h
  show ((if CMul i j then some (D.int (i * j)) else none).map fun d => (d, Fl.pure)).or _ = _
  rw [if_pos this]; rfl
theorem fDiv_c (h : 0 < j ∧ j < 1073741824) : fDiv (.int i, a) (.int j, b) = some (.int (i / j), .pure) := by
  have : CDiv i j := h
  show ((if CDiv i j then some (D.int (i / j)) else none).map fun d => (d, Fl.pure)) = _
  rw [if_pos this]; rfl
theorem fMod_c (h : 0 < j) : fMod (.int i, a) (.int j, b) = some (.int (i % j), .pure) := by
  show ((if 0 < j then some (D.int (i % j)) else none).map fun d => (d, Fl.pure)) = _
  rw [if_pos h]; rfl
theorem fPow_c (h : CPow i j) : fPow (.int i, a) (.int j, b) = some (.int (i ^ j.toNat), .pure) := by
  show ((if CPow i j then some (D.int (i ^ j.toNat)) else none).map fun d => (d, Fl.pure)) = _
  rw [if_pos h]; rfl
theorem fLt_int : fLt (.int i, a) (.int j, b) = some (.bl (decide (i < j)), .pure) := rfl
theorem fLe_int : fLe (.int i, a) (.int j, b) = some (.bl (decide (i ≤ j)), .pure) := rfl
theorem fGt_int : fGt (.int i, a) (.int j, b) = some (.bl (decide (j < i)), .pure) := rfl
theorem fGe_int : fGe (.int i, a) (.int j, b) = some (.bl (decide (j ≤ i)), .pure) := rfl
theorem fAdd_tup {ds es : List D} : fAdd (.tup ds, a) (.tup es, b) = if ds.length + es.length ≤ lim then some (.tup (ds ++ es), .pure) else none := by
  show ((if ds.length + es.length ≤ lim then some ((.tup (ds ++ es), .pure) : D × Fl) else none).or none) = _
  rw [Option.or_none]
theorem fAdd_lst {ds es : List D} : fAdd (.lst ds, a) (.lst es, b) = if ds.length + es.length ≤ lim then some (.lst (ds ++ es), .fresh) else none := rfl
theorem fIx_lst {ds : List D} : fIx (.lst ds, a) (.int j, b) = (atI ds j).map fun d => (d, .pure) := rfl
theorem fIx_tup {ds : List D} : fIx (.tup ds, a) (.int j, b) = (atI ds j).map fun d => (d, .pure) := rfl
theorem fIx_frz {ds : List Int} : fIx (.frz ds, a) (.int j, b) = (atI ds j).map fun d => (.int d, .pure) := rfl
end
/-! ### ints in data -/
abbrev iL (xs : List Int) : List D := xs.map .int
theorem pys_iL : ∀ xs : List Int, pys (iL xs) = xs.map PyData.int
  | [] => rfl
  | x :: xs => by simp [iL, pys, py, pys_iL xs] <;> exact pys_iL xs
theorem eqv_int {i j : Int} : PyData.eqv (.int i) (.int j) = decide (i = j) := by
  simp only [PyData.eqv]; exact Bool.beq_eq_decide_eq i j
theorem okD_int {i : Int} : okD (.int i) = true := by simp [okD, isDat, py, SeqAt.shaped, PyData.canLay0, PyData.depth]
theorem fEq_int {i j : Int} {a b : Fl} : fEq (.int i, a) (.int j, b) = some (.bl (decide (i = j)), .pure) := by
  simp [fEq, okD_int, py, eqv_int]
theorem fNe_int {i j : Int} {a b : Fl} : fNe (.int i, a) (.int j, b) = some (.bl (!decide (i = j)), .pure) := by
  simp [fNe, okD_int, py, eqv_int]
theorem eqv_bl {i j : Bool} : PyData.eqv (.bool i) (.bool j) = decide (i = j) := by
  cases i <;> cases j <;> simp [PyData.eqv]
theorem okD_bl {i : Bool} : okD (.bl i) = true := by simp [okD, isDat, py, SeqAt.shaped, PyData.canLay0, PyData.depth]
theorem fEq_bl {i j : Bool} {a b : Fl} : fEq (.bl i, a) (.bl j, b) = some (.bl (decide (i = j)), .pure) := by
  simp [fEq, okD_bl, py, eqv_bl]
theorem fNe_bl {i j : Bool} {a b : Fl} : fNe (.bl i, a) (.bl j, b) = some (.bl (!decide (i = j)), .pure) := by
  simp [fNe, okD_bl, py, eqv_bl]
theorem imms_iL : ∀ xs : List Int, imms (iL xs) = true
  | [] => rfl
  | x :: xs => by simp only [iL, List.map_cons, imms, imm, Bool.true_and]; exact imms_iL xs

/-! ### networks made -/
theorem check_ok {w i j : Int} (h : 0 ≤ i ∧ i < w ∧ 0 ≤ j ∧ j < w ∧ i ≠ j) : f__check_comparer [.int w, .int i, .int j] = some (.non, false) := by
  obtain ⟨h1, h2, h3, h4, h5⟩ := h
  unfold f__check_comparer runF b__check_comparer
  simp only [List.map_cons, List.map_nil, List.length_cons, List.length_nil, Nat.sub_self, List.replicate, List.append_nil]
  rw [seq_nx (ρ' := [some (.int w, false), some (.int i, false), some (.int j, false)]) (by simp [sIf, sSet, sRet, sNil, sNo, sApp, sAug, sAsg, sExpr, sFrz, sPar, sRev, sRetN, frz1, mOp, mVar, mC, mB, mNot, mAnd, mOr, mNeg, mIf, bNot, bAnd, bOr, bYes, mTup, mLst, aNil, aCons, nb, mFn, fLen, fList, fTuple, fMax2, fMin2, mIsT, isT_int_int, isT_int_bl, isT_bool_int, isT_bool_bl, isT_tuple_tup, isT_list_lst, mIsNet, mWires, mComps, mChain, fAdd_int, fSub_int, fMul_r, fMul_l, fDiv_c, fMod_c, fPow_c, fLt_int, fLe_int, fGt_int, fGe_int, fEq_int, fNe_int, fEq_bl, fNe_bl, fAdd_tup, fAdd_lst, fIx_lst, fIx_tup, fIx_frz, mSl, pNone, pSome, fIsN, fIsB, gN, gT, gsN, gTs, gsNil, gsCons, gIx, mCall, mMeth, isNetD, postC, imm, imms, List.getElem?_cons_zero, List.getElem?_cons_succ, List.set_cons_zero, List.set_cons_succ, Option.bind_some, Option.bind_none, Option.map_some, Option.map_none, Option.or_some, Option.or_none, Option.none_or, List.map_cons, List.map_nil, List.all_cons, List.all_nil, Bool.and_true, Bool.true_and, Bool.and_false, Bool.false_and, if_true, if_false, reduceCtorEq, decide_true, decide_false, ne_eq, not_true_eq_false, not_false_eq_true, List.length_cons, List.length_nil, List.getElem?_nil, List.set_nil, reduceIte, Bool.false_eq_true, Int.reduceNeg, Int.reduceLT, Int.reduceLE, Int.reducePow, Nat.reducePow, Nat.reduceLT, Nat.reduceLeDiff, Nat.reduceAdd, Int.reduceToNat, and_self, Nat.zero_le, Bool.not_true, Bool.not_false, Bool.not_eq_true, zero_add_nat, h1, h2, h3, h4])]
  simp [sIf, sSet, sRet, sNil, sNo, sApp, sAug, sAsg, sExpr, sFrz, sPar, sRev, sRetN, frz1, mOp, mVar, mC, mB, mNot, mAnd, mOr, mNeg, mIf, bNot, bAnd, bOr, bYes, mTup, mLst, aNil, aCons, nb, mFn, fLen, fList, fTuple, fMax2, fMin2, mIsT, isT_int_int, isT_int_bl, isT_bool_int, isT_bool_bl, isT_tuple_tup, isT_list_lst, mIsNet, mWires, mComps, mChain, fAdd_int, fSub_int, fMul_r, fMul_l, fDiv_c, fMod_c, fPow_c, fLt_int, fLe_int, fGt_int, fGe_int, fEq_int, fNe_int, fEq_bl, fNe_bl, fAdd_tup, fAdd_lst, fIx_lst, fIx_tup, fIx_frz, mSl, pNone, pSome, fIsN, fIsB, gN, gT, gsN, gTs, gsNil, gsCons, gIx, mCall, mMeth, isNetD, postC, imm, imms, List.getElem?_cons_zero, List.getElem?_cons_succ, List.set_cons_zero, List.set_cons_succ, Option.bind_some, Option.bind_none, Option.map_some, Option.map_none, Option.or_some, Option.or_none, Option.none_or, List.map_cons, List.map_nil, List.all_cons, List.all_nil, Bool.and_true, Bool.true_and, Bool.and_false, Bool.false_and, if_true, if_false, reduceCtorEq, decide_true, decide_false, ne_eq, not_true_eq_false, not_false_eq_true, List.length_cons, List.length_nil, List.getElem?_nil, List.set_nil, reduceIte, Bool.false_eq_true, Int.reduceNeg, Int.reduceLT, Int.reduceLE, Int.reducePow, Nat.reducePow, Nat.reduceLT, Nat.reduceLeDiff, Nat.reduceAdd, Int.reduceToNat, and_self, Nat.zero_le, Bool.not_true, Bool.not_false, Bool.not_eq_true, zero_add_nat, h5]
theorem init_math : ∀ x w c ds, pairsOf c = some ds → 1 ≤ w → okPairs w ds = true → ds.length ≤ lim → ∃ ρ', sSeq b1_init (sSeq b2_init b3_init) [some (.opq x, false), some (.int w, false), some (c, false), none, none, none] = some (.nx ρ') ∧
      ρ'[0]? = some (some (.opq x, false)) ∧ ρ'[1]? = some (some (.int w, false)) ∧ ρ'[3]? = some (some (.tup ds, false)) := by
  intro x w c ds hc hw hok hl
  have e1 : b1_init [some (.opq x, false), some (.int w, false), some (c, false), none, none, none] = some (.nx [some (.opq x, false), some (.int w, false), some (c, false), none, none, none]) := by
    have : ¬ w < 1 := by omega
    simp [b1_init, sIf, sSet, sRet, sNil, sNo, sApp, sAug, sAsg, sExpr, sFrz, sPar, sRev, sRetN, frz1, mOp, mVar, mC, mB, mNot, mAnd, mOr, mNeg, mIf, bNot, bAnd, bOr, bYes, mTup, mLst, aNil, aCons, nb, mFn, fLen, fList, fTuple, fMax2, fMin2, mIsT, isT_int_int, isT_int_bl, isT_bool_int, isT_bool_bl, isT_tuple_tup, isT_list_lst, mIsNet, mWires, mComps, mChain, fAdd_int, fSub_int, fMul_r, fMul_l, fDiv_c, fMod_c, fPow_c, fLt_int, fLe_int, fGt_int, fGe_int, fEq_int, fNe_int, fEq_bl, fNe_bl, fAdd_tup, fAdd_lst, fIx_lst, fIx_tup, fIx_frz, mSl, pNone, pSome, fIsN, fIsB, gN, gT, gsN, gTs, gsNil, gsCons, gIx, mCall, mMeth, isNetD, postC, imm, imms, List.getElem?_cons_zero, List.getElem?_cons_succ, List.set_cons_zero, List.set_cons_succ, Option.bind_some, Option.bind_none, Option.map_some, Option.map_none, Option.or_some, Option.or_none, Option.none_or, List.map_cons, List.map_nil, List.all_cons, List.all_nil, Bool.and_true, Bool.true_and, Bool.and_false, Bool.false_and, if_true, if_false, reduceCtorEq, decide_true, decide_false, ne_eq, not_true_eq_false, not_false_eq_true, List.length_cons, List.length_nil, List.getElem?_nil, List.set_nil, reduceIte, Bool.false_eq_true, Int.reduceNeg, Int.reduceLT, Int.reduceLE, Int.reducePow, Nat.reducePow, Nat.reduceLT, Nat.reduceLeDiff, Nat.reduceAdd, Int.reduceToNat, and_self, Nat.zero_le, Bool.not_true, Bool.not_false, Bool.not_eq_true, zero_add_nat, this]
  have hgo : ∀ (l : List D) (ρ : E), ρ.length = 6 → okPairs w l = true → lcGo (gT [4, 5]) bYes (mTup (aCons (mVar 4) (aCons (mVar 5) aNil))) l ρ = some l := by
    intro l
    induction l with
    | nil => intro ρ _ _; rfl
    | cons d l ih =>
      intro ρ hρ h
      simp only [okPairs, List.all_cons, Bool.and_eq_true] at h
      have h1 := h.1
      unfold okPair at h1
      split at h1
      · rename_i i j
        obtain ⟨a0, a1, a2, a3, a4, a5, rfl⟩ : ∃ a0 a1 a2 a3 a4 a5, ρ = [a0, a1, a2, a3, a4, a5] := by
          match ρ, hρ with
          | [a0, a1, a2, a3, a4, a5], _ => exact ⟨_, _, _, _, _, _, rfl⟩
        unfold lcGo
        rw [ih _ hρ h.2]
        simp [sIf, sSet, sRet, sNil, sNo, sApp, sAug, sAsg, sExpr, sFrz, sPar, sRev, sRetN, frz1, mOp, mVar, mC, mB, mNot, mAnd, mOr, mNeg, mIf, bNot, bAnd, bOr, bYes, mTup, mLst, aNil, aCons, nb, mFn, fLen, fList, fTuple, fMax2, fMin2, mIsT, isT_int_int, isT_int_bl, isT_bool_int, isT_bool_bl, isT_tuple_tup, isT_list_lst, mIsNet, mWires, mComps, mChain, fAdd_int, fSub_int, fMul_r, fMul_l, fDiv_c, fMod_c, fPow_c, fLt_int, fLe_int, fGt_int, fGe_int, fEq_int, fNe_int, fEq_bl, fNe_bl, fAdd_tup, fAdd_lst, fIx_lst, fIx_tup, fIx_frz, mSl, pNone, pSome, fIsN, fIsB, gN, gT, gsN, gTs, gsNil, gsCons, gIx, mCall, mMeth, isNetD, postC, imm, imms, List.getElem?_cons_zero, List.getElem?_cons_succ, List.set_cons_zero, List.set_cons_succ, Option.bind_some, Option.bind_none, Option.map_some, Option.map_none, Option.or_some, Option.or_none, Option.none_or, List.map_cons, List.map_nil, List.all_cons, List.all_nil, Bool.and_true, Bool.true_and, Bool.and_false, Bool.false_and, if_true, if_false, reduceCtorEq, decide_true, decide_false, ne_eq, not_true_eq_false, not_false_eq_true, List.length_cons, List.length_nil, List.getElem?_nil, List.set_nil, reduceIte, Bool.false_eq_true, Int.reduceNeg, Int.reduceLT, Int.reduceLE, Int.reducePow, Nat.reducePow, Nat.reduceLT, Nat.reduceLeDiff, Nat.reduceAdd, Int.reduceToNat, and_self, Nat.zero_le, Bool.not_true, Bool.not_false, Bool.not_eq_true, zero_add_nat, lim]
      · cases h1
  have hi : iS true (mVar 2) [some (.opq x, false), some (.int w, false), some (c, false), none, none, none] = some ds := by
    cases c <;> simp [pairsOf] at hc <;> subst hc <;> simp [iS, sIf, sSet, sRet, sNil, sNo, sApp, sAug, sAsg, sExpr, sFrz, sPar, sRev, sRetN, frz1, mOp, mVar, mC, mB, mNot, mAnd, mOr, mNeg, mIf, bNot, bAnd, bOr, bYes, mTup, mLst, aNil, aCons, nb, mFn, fLen, fList, fTuple, fMax2, fMin2, mIsT, isT_int_int, isT_int_bl, isT_bool_int, isT_bool_bl, isT_tuple_tup, isT_list_lst, mIsNet, mWires, mComps, mChain, fAdd_int, fSub_int, fMul_r, fMul_l, fDiv_c, fMod_c, fPow_c, fLt_int, fLe_int, fGt_int, fGe_int, fEq_int, fNe_int, fEq_bl, fNe_bl, fAdd_tup, fAdd_lst, fIx_lst, fIx_tup, fIx_frz, mSl, pNone, pSome, fIsN, fIsB, gN, gT, gsN, gTs, gsNil, gsCons, gIx, mCall, mMeth, isNetD, postC, imm, imms, List.getElem?_cons_zero, List.getElem?_cons_succ, List.set_cons_zero, List.set_cons_succ, Option.bind_some, Option.bind_none, Option.map_some, Option.map_none, Option.or_some, Option.or_none, Option.none_or, List.map_cons, List.map_nil, List.all_cons, List.all_nil, Bool.and_true, Bool.true_and, Bool.and_false, Bool.false_and, if_true, if_false, reduceCtorEq, decide_true, decide_false, ne_eq, not_true_eq_false, not_false_eq_true, List.length_cons, List.length_nil, List.getElem?_nil, List.set_nil, reduceIte, Bool.false_eq_true, Int.reduceNeg, Int.reduceLT, Int.reduceLE, Int.reducePow, Nat.reducePow, Nat.reduceLT, Nat.reduceLeDiff, Nat.reduceAdd, Int.reduceToNat, and_self, Nat.zero_le, Bool.not_true, Bool.not_false, Bool.not_eq_true, zero_add_nat]
  have e2 : b2_init [some (.opq x, false), some (.int w, false), some (c, false), none, none, none] = some (.nx [some (.opq x, false), some (.int w, false), some (c, false), some (.tup ds, false), none, none]) := by
    unfold b2_init
    simp only [sSet, mFn, aCons, mLc, hi, Option.bind_some, if_pos hl]
    rw [hgo ds _ (by simp [wipeE]) hok]
    simp [sIf, sSet, sRet, sNil, sNo, sApp, sAug, sAsg, sExpr, sFrz, sPar, sRev, sRetN, frz1, mOp, mVar, mC, mB, mNot, mAnd, mOr, mNeg, mIf, bNot, bAnd, bOr, bYes, mTup, mLst, aNil, aCons, nb, mFn, fLen, fList, fTuple, fMax2, fMin2, mIsT, isT_int_int, isT_int_bl, isT_bool_int, isT_bool_bl, isT_tuple_tup, isT_list_lst, mIsNet, mWires, mComps, mChain, fAdd_int, fSub_int, fMul_r, fMul_l, fDiv_c, fMod_c, fPow_c, fLt_int, fLe_int, fGt_int, fGe_int, fEq_int, fNe_int, fEq_bl, fNe_bl, fAdd_tup, fAdd_lst, fIx_lst, fIx_tup, fIx_frz, mSl, pNone, pSome, fIsN, fIsB, gN, gT, gsN, gTs, gsNil, gsCons, gIx, mCall, mMeth, isNetD, postC, imm, imms, List.getElem?_cons_zero, List.getElem?_cons_succ, List.set_cons_zero, List.set_cons_succ, Option.bind_some, Option.bind_none, Option.map_some, Option.map_none, Option.or_some, Option.or_none, Option.none_or, List.map_cons, List.map_nil, List.all_cons, List.all_nil, Bool.and_true, Bool.true_and, Bool.and_false, Bool.false_and, if_true, if_false, reduceCtorEq, decide_true, decide_false, ne_eq, not_true_eq_false, not_false_eq_true, List.length_cons, List.length_nil, List.getElem?_nil, List.set_nil, reduceIte, Bool.false_eq_true, Int.reduceNeg, Int.reduceLT, Int.reduceLE, Int.reducePow, Nat.reducePow, Nat.reduceLT, Nat.reduceLeDiff, Nat.reduceAdd, Int.reduceToNat, and_self, Nat.zero_le, Bool.not_true, Bool.not_false, Bool.not_eq_true, zero_add_nat]
  have e3 : ∃ a b, b3_init [some (.opq x, false), some (.int w, false), some (c, false), some (.tup ds, false), none, none] = some (.nx [some (.opq x, false), some (.int w, false), some (c, false), some (.tup ds, false), a, b]) := by
    unfold b3_init
    obtain ⟨ρ', h1, a, b, h2⟩ := forGo0 (g := gTs 2 (gsCons (gN 4) (gsCons (gN 5) gsNil))) (m := sExpr (mCall f__check_comparer (aCons (mVar 1) (aCons (mVar 4) (aCons (mVar 5) aNil)))))
      (fun _ ρ => ∃ a b, ρ = [some (.opq x, false), some (.int w, false), some (c, false), some (.tup ds, false), a, b]) (ds := ds) (ρ := [some (.opq x, false), some (.int w, false), some (c, false), some (.tup ds, false), none, none]) ⟨none, none, rfl⟩ (by
        rintro j d ρ hd ⟨a, b, rfl⟩
        have hp : okPair w d = true := List.all_eq_true.mp hok d (List.mem_of_getElem? hd)
        unfold okPair at hp
        split at hp
        · rename_i i k
          simp only [decide_eq_true_eq] at hp
          refine ⟨[some (.opq x, false), some (.int w, false), some (c, false), some (.tup ds, false), some (.int i, false), some (.int k, false)], [some (.opq x, false), some (.int w, false), some (c, false), some (.tup ds, false), some (.int i, false), some (.int k, false)], by simp [sIf, sSet, sRet, sNil, sNo, sApp, sAug, sAsg, sExpr, sFrz, sPar, sRev, sRetN, frz1, mOp, mVar, mC, mB, mNot, mAnd, mOr, mNeg, mIf, bNot, bAnd, bOr, bYes, mTup, mLst, aNil, aCons, nb, mFn, fLen, fList, fTuple, fMax2, fMin2, mIsT, isT_int_int, isT_int_bl, isT_bool_int, isT_bool_bl, isT_tuple_tup, isT_list_lst, mIsNet, mWires, mComps, mChain, fAdd_int, fSub_int, fMul_r, fMul_l, fDiv_c, fMod_c, fPow_c, fLt_int, fLe_int, fGt_int, fGe_int, fEq_int, fNe_int, fEq_bl, fNe_bl, fAdd_tup, fAdd_lst, fIx_lst, fIx_tup, fIx_frz, mSl, pNone, pSome, fIsN, fIsB, gN, gT, gsN, gTs, gsNil, gsCons, gIx, mCall, mMeth, isNetD, postC, imm, imms, List.getElem?_cons_zero, List.getElem?_cons_succ, List.set_cons_zero, List.set_cons_succ, Option.bind_some, Option.bind_none, Option.map_some, Option.map_none, Option.or_some, Option.or_none, Option.none_or, List.map_cons, List.map_nil, List.all_cons, List.all_nil, Bool.and_true, Bool.true_and, Bool.and_false, Bool.false_and, if_true, if_false, reduceCtorEq, decide_true, decide_false, ne_eq, not_true_eq_false, not_false_eq_true, List.length_cons, List.length_nil, List.getElem?_nil, List.set_nil, reduceIte, Bool.false_eq_true, Int.reduceNeg, Int.reduceLT, Int.reduceLE, Int.reducePow, Nat.reducePow, Nat.reduceLT, Nat.reduceLeDiff, Nat.reduceAdd, Int.reduceToNat, and_self, Nat.zero_le, Bool.not_true, Bool.not_false, Bool.not_eq_true, zero_add_nat], ?_, ⟨_, _, rfl⟩⟩
          simp [sIf, sSet, sRet, sNil, sNo, sApp, sAug, sAsg, sExpr, sFrz, sPar, sRev, sRetN, frz1, mOp, mVar, mC, mB, mNot, mAnd, mOr, mNeg, mIf, bNot, bAnd, bOr, bYes, mTup, mLst, aNil, aCons, nb, mFn, fLen, fList, fTuple, fMax2, fMin2, mIsT, isT_int_int, isT_int_bl, isT_bool_int, isT_bool_bl, isT_tuple_tup, isT_list_lst, mIsNet, mWires, mComps, mChain, fAdd_int, fSub_int, fMul_r, fMul_l, fDiv_c, fMod_c, fPow_c, fLt_int, fLe_int, fGt_int, fGe_int, fEq_int, fNe_int, fEq_bl, fNe_bl, fAdd_tup, fAdd_lst, fIx_lst, fIx_tup, fIx_frz, mSl, pNone, pSome, fIsN, fIsB, gN, gT, gsN, gTs, gsNil, gsCons, gIx, mCall, mMeth, isNetD, postC, imm, imms, List.getElem?_cons_zero, List.getElem?_cons_succ, List.set_cons_zero, List.set_cons_succ, Option.bind_some, Option.bind_none, Option.map_some, Option.map_none, Option.or_some, Option.or_none, Option.none_or, List.map_cons, List.map_nil, List.all_cons, List.all_nil, Bool.and_true, Bool.true_and, Bool.and_false, Bool.false_and, if_true, if_false, reduceCtorEq, decide_true, decide_false, ne_eq, not_true_eq_false, not_false_eq_true, List.length_cons, List.length_nil, List.getElem?_nil, List.set_nil, reduceIte, Bool.false_eq_true, Int.reduceNeg, Int.reduceLT, Int.reduceLE, Int.reducePow, Nat.reducePow, Nat.reduceLT, Nat.reduceLeDiff, Nat.reduceAdd, Int.reduceToNat, and_self, Nat.zero_le, Bool.not_true, Bool.not_false, Bool.not_eq_true, zero_add_nat, check_ok hp]
        · cases hp)
    refine ⟨a, b, ?_⟩
    rw [← h2, ← h1]
    simp [sIf, sSet, sRet, sNil, sNo, sApp, sAug, sAsg, sExpr, sFrz, sPar, sRev, sRetN, frz1, mOp, mVar, mC, mB, mNot, mAnd, mOr, mNeg, mIf, bNot, bAnd, bOr, bYes, mTup, mLst, aNil, aCons, nb, mFn, fLen, fList, fTuple, fMax2, fMin2, mIsT, isT_int_int, isT_int_bl, isT_bool_int, isT_bool_bl, isT_tuple_tup, isT_list_lst, mIsNet, mWires, mComps, mChain, fAdd_int, fSub_int, fMul_r, fMul_l, fDiv_c, fMod_c, fPow_c, fLt_int, fLe_int, fGt_int, fGe_int, fEq_int, fNe_int, fEq_bl, fNe_bl, fAdd_tup, fAdd_lst, fIx_lst, fIx_tup, fIx_frz, mSl, pNone, pSome, fIsN, fIsB, gN, gT, gsN, gTs, gsNil, gsCons, gIx, mCall, mMeth, isNetD, postC, imm, imms, List.getElem?_cons_zero, List.getElem?_cons_succ, List.set_cons_zero, List.set_cons_succ, Option.bind_some, Option.bind_none, Option.map_some, Option.map_none, Option.or_some, Option.or_none, Option.none_or, List.map_cons, List.map_nil, List.all_cons, List.all_nil, Bool.and_true, Bool.true_and, Bool.and_false, Bool.false_and, if_true, if_false, reduceCtorEq, decide_true, decide_false, ne_eq, not_true_eq_false, not_false_eq_true, List.length_cons, List.length_nil, List.getElem?_nil, List.set_nil, reduceIte, Bool.false_eq_true, Int.reduceNeg, Int.reduceLT, Int.reduceLE, Int.reducePow, Nat.reducePow, Nat.reduceLT, Nat.reduceLeDiff, Nat.reduceAdd, Int.reduceToNat, and_self, Nat.zero_le, Bool.not_true, Bool.not_false, Bool.not_eq_true, zero_add_nat, sFor, iS]
  obtain ⟨a, b, e3⟩ := e3
  refine ⟨[some (.opq x, false), some (.int w, false), some (c, false), some (.tup ds, false), a, b], ?_, rfl, rfl, rfl⟩
  rw [seq_nx e1, seq_nx e2, e3]

/-! ### the drawn numbers -/
theorem emod_mil (x : Int) : 0 ≤ x % 1000000 ∧ x % 1000000 < 1000000 := ⟨Int.emod_nonneg _ (by decide), Int.emod_lt_of_pos _ (by decide)⟩

def nbody : S := (sIf (bAnd (mB (mVar 3)) (mB (mOp fGt (mVar 2) (mC (.int 0))))) (sSeq (sApp 4 (mOp fMod (mVar 2) (mC (.int 1000000)))) (sSet 2 (mOp fDiv (mVar 2) (mC (.int 1000000))))) (sSeq (sSet 6 (mC (.int 13))) (sSeq (sIf (mB (mOp fGt (mFn fLen (aCons (mVar 0) aNil)) (mC (.int 0)))) (sSet 6 (mOp fAdd (mOp fIx (mVar 0) (mOp fMod (mVar 5) (mFn fLen (aCons (mVar 0) aNil)))) (mOp fMul (mC (.int 7919)) (mVar 5)))) sNil) (sApp 4 (mOp fMod (mOp fMod (mOp fMul (mOp fMod (mOp fMul (mVar 6) (mC (.int 48271))) (mC (.int 2147483647))) (mC (.int 69621))) (mC (.int 2147483629))) (mC (.int 1000000)))))))
theorem nbody_ok {ns : List Int} {c rest : Int} {bd : Bool} {xs : List Int} {j : Nat} {b : Option (D × Bool)} (hl : (iL xs).length < lim) : ∃ (rest' x : Int) (a' b' : Option (D × Bool)), (0 ≤ x ∧ x < 1000000) ∧
    nbody [some (.frz ns, false), some (.int c, false), some (.int rest, false), some (.bl bd, false), some (.lst (iL xs), true), some (.int (0 + j), false), b] =
      some (.nx [some (.frz ns, false), some (.int c, false), some (.int rest', false), some (.bl bd, false), some (.lst (iL (xs ++ [x])), true), a', b']) := by
  have ea : ∀ x : Int, iL xs ++ [D.int x] = iL (xs ++ [x]) := fun x => by simp
  unfold nbody
  cases hb : (bd && decide (0 < rest)) with
  | true =>
    simp only [Bool.and_eq_true, decide_eq_true_eq] at hb
    obtain ⟨rfl, hr⟩ := hb
    refine ⟨rest / 1000000, rest % 1000000, some (.int j, false), b, emod_mil _, ?_⟩
    have e : bAnd (mB (mVar 3)) (mB (mOp fGt (mVar 2) (mC (.int 0)))) [some (.frz ns, false), some (.int c, false), some (.int rest, false), some (.bl true, false), some (.lst (iL xs), true), some (.int (0 + j), false), b] = some true := by
      simp only [sIf, sSet, sRet, sNil, sNo, sApp, sAug, sAsg, sExpr, sFrz, sPar, sRev, sRetN, frz1, mOp, mVar, mC, mB, mNot, mAnd, mOr, mNeg, mIf, bNot, bAnd, bOr, bYes, mTup, mLst, aNil, aCons, nb, mFn, fLen, fList, fTuple, fMax2, fMin2, mIsT, isT_int_int, isT_int_bl, isT_bool_int, isT_bool_bl, isT_tuple_tup, isT_list_lst, mIsNet, mWires, mComps, mChain, fAdd_int, fSub_int, fMul_r, fMul_l, fDiv_c, fMod_c, fPow_c, fLt_int, fLe_int, fGt_int, fGe_int, fEq_int, fNe_int, fEq_bl, fNe_bl, fAdd_tup, fAdd_lst, fIx_lst, fIx_tup, fIx_frz, mSl, pNone, pSome, fIsN, fIsB, gN, gT, gsN, gTs, gsNil, gsCons, gIx, mCall, mMeth, isNetD, postC, imm, imms, List.getElem?_cons_zero, List.getElem?_cons_succ, List.set_cons_zero, List.set_cons_succ, Option.bind_some, Option.bind_none, Option.map_some, Option.map_none, Option.or_some, Option.or_none, Option.none_or, List.map_cons, List.map_nil, List.all_cons, List.all_nil, Bool.and_true, Bool.true_and, Bool.and_false, Bool.false_and, if_true, if_false, reduceCtorEq, decide_true, decide_false, ne_eq, not_true_eq_false, not_false_eq_true, List.length_cons, List.length_nil, List.getElem?_nil, List.set_nil, reduceIte, Bool.false_eq_true, Int.reduceNeg, Int.reduceLT, Int.reduceLE, Int.reducePow, Nat.reducePow, Nat.reduceLT, Nat.reduceLeDiff, Nat.reduceAdd, Int.reduceToNat, and_self, Nat.zero_le, Bool.not_true, Bool.not_false, Bool.not_eq_true, zero_add_nat, hr]
    unfold sIf
    rw [e]
    simp only [Option.bind_some, if_true]
    rw [seq_nx (by simp only [sIf, sSet, sRet, sNil, sNo, sApp, sAug, sAsg, sExpr, sFrz, sPar, sRev, sRetN, frz1, mOp, mVar, mC, mB, mNot, mAnd, mOr, mNeg, mIf, bNot, bAnd, bOr, bYes, mTup, mLst, aNil, aCons, nb, mFn, fLen, fList, fTuple, fMax2, fMin2, mIsT, isT_int_int, isT_int_bl, isT_bool_int, isT_bool_bl, isT_tuple_tup, isT_list_lst, mIsNet, mWires, mComps, mChain, fAdd_int, fSub_int, fMul_r, fMul_l, fDiv_c, fMod_c, fPow_c, fLt_int, fLe_int, fGt_int, fGe_int, fEq_int, fNe_int, fEq_bl, fNe_bl, fAdd_tup, fAdd_lst, fIx_lst, fIx_tup, fIx_frz, mSl, pNone, pSome, fIsN, fIsB, gN, gT, gsN, gTs, gsNil, gsCons, gIx, mCall, mMeth, isNetD, postC, imm, imms, List.getElem?_cons_zero, List.getElem?_cons_succ, List.set_cons_zero, List.set_cons_succ, Option.bind_some, Option.bind_none, Option.map_some, Option.map_none, Option.or_some, Option.or_none, Option.none_or, List.map_cons, List.map_nil, List.all_cons, List.all_nil, Bool.and_true, Bool.true_and, Bool.and_false, Bool.false_and, if_true, if_false, reduceCtorEq, decide_true, decide_false, ne_eq, not_true_eq_false, not_false_eq_true, List.length_cons, List.length_nil, List.getElem?_nil, List.set_nil, reduceIte, Bool.false_eq_true, Int.reduceNeg, Int.reduceLT, Int.reduceLE, Int.reducePow, Nat.reducePow, Nat.reduceLT, Nat.reduceLeDiff, Nat.reduceAdd, Int.reduceToNat, and_self, Nat.zero_le, Bool.not_true, Bool.not_false, Bool.not_eq_true, zero_add_nat, hl]; rfl)]
    simp only [sIf, sSet, sRet, sNil, sNo, sApp, sAug, sAsg, sExpr, sFrz, sPar, sRev, sRetN, frz1, mOp, mVar, mC, mB, mNot, mAnd, mOr, mNeg, mIf, bNot, bAnd, bOr, bYes, mTup, mLst, aNil, aCons, nb, mFn, fLen, fList, fTuple, fMax2, fMin2, mIsT, isT_int_int, isT_int_bl, isT_bool_int, isT_bool_bl, isT_tuple_tup, isT_list_lst, mIsNet, mWires, mComps, mChain, fAdd_int, fSub_int, fMul_r, fMul_l, fDiv_c, fMod_c, fPow_c, fLt_int, fLe_int, fGt_int, fGe_int, fEq_int, fNe_int, fEq_bl, fNe_bl, fAdd_tup, fAdd_lst, fIx_lst, fIx_tup, fIx_frz, mSl, pNone, pSome, fIsN, fIsB, gN, gT, gsN, gTs, gsNil, gsCons, gIx, mCall, mMeth, isNetD, postC, imm, imms, List.getElem?_cons_zero, List.getElem?_cons_succ, List.set_cons_zero, List.set_cons_succ, Option.bind_some, Option.bind_none, Option.map_some, Option.map_none, Option.or_some, Option.or_none, Option.none_or, List.map_cons, List.map_nil, List.all_cons, List.all_nil, Bool.and_true, Bool.true_and, Bool.and_false, Bool.false_and, if_true, if_false, reduceCtorEq, decide_true, decide_false, ne_eq, not_true_eq_false, not_false_eq_true, List.length_cons, List.length_nil, List.getElem?_nil, List.set_nil, reduceIte, Bool.false_eq_true, Int.reduceNeg, Int.reduceLT, Int.reduceLE, Int.reducePow, Nat.reducePow, Nat.reduceLT, Nat.reduceLeDiff, Nat.reduceAdd, Int.reduceToNat, and_self, Nat.zero_le, Bool.not_true, Bool.not_false, Bool.not_eq_true, zero_add_nat, ea]
  | false =>
    have e : bAnd (mB (mVar 3)) (mB (mOp fGt (mVar 2) (mC (.int 0)))) [some (.frz ns, false), some (.int c, false), some (.int rest, false), some (.bl bd, false), some (.lst (iL xs), true), some (.int (0 + j), false), b] = some false := by
      cases bd
      · simp only [sIf, sSet, sRet, sNil, sNo, sApp, sAug, sAsg, sExpr, sFrz, sPar, sRev, sRetN, frz1, mOp, mVar, mC, mB, mNot, mAnd, mOr, mNeg, mIf, bNot, bAnd, bOr, bYes, mTup, mLst, aNil, aCons, nb, mFn, fLen, fList, fTuple, fMax2, fMin2, mIsT, isT_int_int, isT_int_bl, isT_bool_int, isT_bool_bl, isT_tuple_tup, isT_list_lst, mIsNet, mWires, mComps, mChain, fAdd_int, fSub_int, fMul_r, fMul_l, fDiv_c, fMod_c, fPow_c, fLt_int, fLe_int, fGt_int, fGe_int, fEq_int, fNe_int, fEq_bl, fNe_bl, fAdd_tup, fAdd_lst, fIx_lst, fIx_tup, fIx_frz, mSl, pNone, pSome, fIsN, fIsB, gN, gT, gsN, gTs, gsNil, gsCons, gIx, mCall, mMeth, isNetD, postC, imm, imms, List.getElem?_cons_zero, List.getElem?_cons_succ, List.set_cons_zero, List.set_cons_succ, Option.bind_some, Option.bind_none, Option.map_some, Option.map_none, Option.or_some, Option.or_none, Option.none_or, List.map_cons, List.map_nil, List.all_cons, List.all_nil, Bool.and_true, Bool.true_and, Bool.and_false, Bool.false_and, if_true, if_false, reduceCtorEq, decide_true, decide_false, ne_eq, not_true_eq_false, not_false_eq_true, List.length_cons, List.length_nil, List.getElem?_nil, List.set_nil, reduceIte, Bool.false_eq_true, Int.reduceNeg, Int.reduceLT, Int.reduceLE, Int.reducePow, Nat.reducePow, Nat.reduceLT, Nat.reduceLeDiff, Nat.reduceAdd, Int.reduceToNat, and_self, Nat.zero_le, Bool.not_true, Bool.not_false, Bool.not_eq_true, zero_add_nat]
      · simp only [Bool.true_and, decide_eq_false_iff_not] at hb
        simp only [sIf, sSet, sRet, sNil, sNo, sApp, sAug, sAsg, sExpr, sFrz, sPar, sRev, sRetN, frz1, mOp, mVar, mC, mB, mNot, mAnd, mOr, mNeg, mIf, bNot, bAnd, bOr, bYes, mTup, mLst, aNil, aCons, nb, mFn, fLen, fList, fTuple, fMax2, fMin2, mIsT, isT_int_int, isT_int_bl, isT_bool_int, isT_bool_bl, isT_tuple_tup, isT_list_lst, mIsNet, mWires, mComps, mChain, fAdd_int, fSub_int, fMul_r, fMul_l, fDiv_c, fMod_c, fPow_c, fLt_int, fLe_int, fGt_int, fGe_int, fEq_int, fNe_int, fEq_bl, fNe_bl, fAdd_tup, fAdd_lst, fIx_lst, fIx_tup, fIx_frz, mSl, pNone, pSome, fIsN, fIsB, gN, gT, gsN, gTs, gsNil, gsCons, gIx, mCall, mMeth, isNetD, postC, imm, imms, List.getElem?_cons_zero, List.getElem?_cons_succ, List.set_cons_zero, List.set_cons_succ, Option.bind_some, Option.bind_none, Option.map_some, Option.map_none, Option.or_some, Option.or_none, Option.none_or, List.map_cons, List.map_nil, List.all_cons, List.all_nil, Bool.and_true, Bool.true_and, Bool.and_false, Bool.false_and, if_true, if_false, reduceCtorEq, decide_true, decide_false, ne_eq, not_true_eq_false, not_false_eq_true, List.length_cons, List.length_nil, List.getElem?_nil, List.set_nil, reduceIte, Bool.false_eq_true, Int.reduceNeg, Int.reduceLT, Int.reduceLE, Int.reducePow, Nat.reducePow, Nat.reduceLT, Nat.reduceLeDiff, Nat.reduceAdd, Int.reduceToNat, and_self, Nat.zero_le, Bool.not_true, Bool.not_false, Bool.not_eq_true, zero_add_nat, hb]
    unfold sIf
    rw [e]
    simp only [Option.bind_some, Bool.false_eq_true, if_false]
    cases ns with
    | nil =>
      refine ⟨rest, 13 * 48271 % 2147483647 * 69621 % 2147483629 % 1000000, some (.int j, false), some (.int 13, false), emod_mil _, ?_⟩
      rw [seq_nx (by simp only [sIf, sSet, sRet, sNil, sNo, sApp, sAug, sAsg, sExpr, sFrz, sPar, sRev, sRetN, frz1, mOp, mVar, mC, mB, mNot, mAnd, mOr, mNeg, mIf, bNot, bAnd, bOr, bYes, mTup, mLst, aNil, aCons, nb, mFn, fLen, fList, fTuple, fMax2, fMin2, mIsT, isT_int_int, isT_int_bl, isT_bool_int, isT_bool_bl, isT_tuple_tup, isT_list_lst, mIsNet, mWires, mComps, mChain, fAdd_int, fSub_int, fMul_r, fMul_l, fDiv_c, fMod_c, fPow_c, fLt_int, fLe_int, fGt_int, fGe_int, fEq_int, fNe_int, fEq_bl, fNe_bl, fAdd_tup, fAdd_lst, fIx_lst, fIx_tup, fIx_frz, mSl, pNone, pSome, fIsN, fIsB, gN, gT, gsN, gTs, gsNil, gsCons, gIx, mCall, mMeth, isNetD, postC, imm, imms, List.getElem?_cons_zero, List.getElem?_cons_succ, List.set_cons_zero, List.set_cons_succ, Option.bind_some, Option.bind_none, Option.map_some, Option.map_none, Option.or_some, Option.or_none, Option.none_or, List.map_cons, List.map_nil, List.all_cons, List.all_nil, Bool.and_true, Bool.true_and, Bool.and_false, Bool.false_and, if_true, if_false, reduceCtorEq, decide_true, decide_false, ne_eq, not_true_eq_false, not_false_eq_true, List.length_cons, List.length_nil, List.getElem?_nil, List.set_nil, reduceIte, Bool.false_eq_true, Int.reduceNeg, Int.reduceLT, Int.reduceLE, Int.reducePow, Nat.reducePow, Nat.reduceLT, Nat.reduceLeDiff, Nat.reduceAdd, Int.reduceToNat, and_self, Nat.zero_le, Bool.not_true, Bool.not_false, Bool.not_eq_true, zero_add_nat]; rfl), seq_nx (by simp only [sIf, sSet, sRet, sNil, sNo, sApp, sAug, sAsg, sExpr, sFrz, sPar, sRev, sRetN, frz1, mOp, mVar, mC, mB, mNot, mAnd, mOr, mNeg, mIf, bNot, bAnd, bOr, bYes, mTup, mLst, aNil, aCons, nb, mFn, fLen, fList, fTuple, fMax2, fMin2, mIsT, isT_int_int, isT_int_bl, isT_bool_int, isT_bool_bl, isT_tuple_tup, isT_list_lst, mIsNet, mWires, mComps, mChain, fAdd_int, fSub_int, fMul_r, fMul_l, fDiv_c, fMod_c, fPow_c, fLt_int, fLe_int, fGt_int, fGe_int, fEq_int, fNe_int, fEq_bl, fNe_bl, fAdd_tup, fAdd_lst, fIx_lst, fIx_tup, fIx_frz, mSl, pNone, pSome, fIsN, fIsB, gN, gT, gsN, gTs, gsNil, gsCons, gIx, mCall, mMeth, isNetD, postC, imm, imms, List.getElem?_cons_zero, List.getElem?_cons_succ, List.set_cons_zero, List.set_cons_succ, Option.bind_some, Option.bind_none, Option.map_some, Option.map_none, Option.or_some, Option.or_none, Option.none_or, List.map_cons, List.map_nil, List.all_cons, List.all_nil, Bool.and_true, Bool.true_and, Bool.and_false, Bool.false_and, if_true, if_false, reduceCtorEq, decide_true, decide_false, ne_eq, not_true_eq_false, not_false_eq_true, List.length_cons, List.length_nil, List.getElem?_nil, List.set_nil, reduceIte, Bool.false_eq_true, Int.reduceNeg, Int.reduceLT, Int.reduceLE, Int.reducePow, Nat.reducePow, Nat.reduceLT, Nat.reduceLeDiff, Nat.reduceAdd, Int.reduceToNat, and_self, Nat.zero_le, Bool.not_true, Bool.not_false, Bool.not_eq_true, zero_add_nat]; rfl)]
      simp only [sIf, sSet, sRet, sNil, sNo, sApp, sAug, sAsg, sExpr, sFrz, sPar, sRev, sRetN, frz1, mOp, mVar, mC, mB, mNot, mAnd, mOr, mNeg, mIf, bNot, bAnd, bOr, bYes, mTup, mLst, aNil, aCons, nb, mFn, fLen, fList, fTuple, fMax2, fMin2, mIsT, isT_int_int, isT_int_bl, isT_bool_int, isT_bool_bl, isT_tuple_tup, isT_list_lst, mIsNet, mWires, mComps, mChain, fAdd_int, fSub_int, fMul_r, fMul_l, fDiv_c, fMod_c, fPow_c, fLt_int, fLe_int, fGt_int, fGe_int, fEq_int, fNe_int, fEq_bl, fNe_bl, fAdd_tup, fAdd_lst, fIx_lst, fIx_tup, fIx_frz, mSl, pNone, pSome, fIsN, fIsB, gN, gT, gsN, gTs, gsNil, gsCons, gIx, mCall, mMeth, isNetD, postC, imm, imms, List.getElem?_cons_zero, List.getElem?_cons_succ, List.set_cons_zero, List.set_cons_succ, Option.bind_some, Option.bind_none, Option.map_some, Option.map_none, Option.or_some, Option.or_none, Option.none_or, List.map_cons, List.map_nil, List.all_cons, List.all_nil, Bool.and_true, Bool.true_and, Bool.and_false, Bool.false_and, if_true, if_false, reduceCtorEq, decide_true, decide_false, ne_eq, not_true_eq_false, not_false_eq_true, List.length_cons, List.length_nil, List.getElem?_nil, List.set_nil, reduceIte, Bool.false_eq_true, Int.reduceNeg, Int.reduceLT, Int.reduceLE, Int.reducePow, Nat.reducePow, Nat.reduceLT, Nat.reduceLeDiff, Nat.reduceAdd, Int.reduceToNat, and_self, Nat.zero_le, Bool.not_true, Bool.not_false, Bool.not_eq_true, zero_add_nat, hl, ea]
    | cons n ns =>
      have h1 : (0 : Int) < ((ns.length + 1 : Nat) : Int) := by omega
      have h2 := Int.emod_nonneg (j : Int) (Int.ne_of_gt h1)
      have h3 := Int.emod_lt_of_pos (j : Int) h1
      have hix := atI_get' (xs := n :: ns) h2 (by simp only [List.length_cons]; omega)
      generalize (n :: ns)[((j : Int) % ((ns.length + 1 : Nat) : Int)).toNat]'(by simp only [List.length_cons]; omega) = c0 at hix
      refine ⟨rest, (c0 + 7919 * j) * 48271 % 2147483647 * 69621 % 2147483629 % 1000000, some (.int j, false), some (.int (c0 + 7919 * j), false), emod_mil _, ?_⟩
      rw [seq_nx (by simp only [sIf, sSet, sRet, sNil, sNo, sApp, sAug, sAsg, sExpr, sFrz, sPar, sRev, sRetN, frz1, mOp, mVar, mC, mB, mNot, mAnd, mOr, mNeg, mIf, bNot, bAnd, bOr, bYes, mTup, mLst, aNil, aCons, nb, mFn, fLen, fList, fTuple, fMax2, fMin2, mIsT, isT_int_int, isT_int_bl, isT_bool_int, isT_bool_bl, isT_tuple_tup, isT_list_lst, mIsNet, mWires, mComps, mChain, fAdd_int, fSub_int, fMul_r, fMul_l, fDiv_c, fMod_c, fPow_c, fLt_int, fLe_int, fGt_int, fGe_int, fEq_int, fNe_int, fEq_bl, fNe_bl, fAdd_tup, fAdd_lst, fIx_lst, fIx_tup, fIx_frz, mSl, pNone, pSome, fIsN, fIsB, gN, gT, gsN, gTs, gsNil, gsCons, gIx, mCall, mMeth, isNetD, postC, imm, imms, List.getElem?_cons_zero, List.getElem?_cons_succ, List.set_cons_zero, List.set_cons_succ, Option.bind_some, Option.bind_none, Option.map_some, Option.map_none, Option.or_some, Option.or_none, Option.none_or, List.map_cons, List.map_nil, List.all_cons, List.all_nil, Bool.and_true, Bool.true_and, Bool.and_false, Bool.false_and, if_true, if_false, reduceCtorEq, decide_true, decide_false, ne_eq, not_true_eq_false, not_false_eq_true, List.length_cons, List.length_nil, List.getElem?_nil, List.set_nil, reduceIte, Bool.false_eq_true, Int.reduceNeg, Int.reduceLT, Int.reduceLE, Int.reducePow, Nat.reducePow, Nat.reduceLT, Nat.reduceLeDiff, Nat.reduceAdd, Int.reduceToNat, and_self, Nat.zero_le, Bool.not_true, Bool.not_false, Bool.not_eq_true, zero_add_nat]; rfl), seq_nx (by simp only [sIf, sSet, sRet, sNil, sNo, sApp, sAug, sAsg, sExpr, sFrz, sPar, sRev, sRetN, frz1, mOp, mVar, mC, mB, mNot, mAnd, mOr, mNeg, mIf, bNot, bAnd, bOr, bYes, mTup, mLst, aNil, aCons, nb, mFn, fLen, fList, fTuple, fMax2, fMin2, mIsT, isT_int_int, isT_int_bl, isT_bool_int, isT_bool_bl, isT_tuple_tup, isT_list_lst, mIsNet, mWires, mComps, mChain, fAdd_int, fSub_int, fMul_r, fMul_l, fDiv_c, fMod_c, fPow_c, fLt_int, fLe_int, fGt_int, fGe_int, fEq_int, fNe_int, fEq_bl, fNe_bl, fAdd_tup, fAdd_lst, fIx_lst, fIx_tup, fIx_frz, mSl, pNone, pSome, fIsN, fIsB, gN, gT, gsN, gTs, gsNil, gsCons, gIx, mCall, mMeth, isNetD, postC, imm, imms, List.getElem?_cons_zero, List.getElem?_cons_succ, List.set_cons_zero, List.set_cons_succ, Option.bind_some, Option.bind_none, Option.map_some, Option.map_none, Option.or_some, Option.or_none, Option.none_or, List.map_cons, List.map_nil, List.all_cons, List.all_nil, Bool.and_true, Bool.true_and, Bool.and_false, Bool.false_and, if_true, if_false, reduceCtorEq, decide_true, decide_false, ne_eq, not_true_eq_false, not_false_eq_true, List.length_cons, List.length_nil, List.getElem?_nil, List.set_nil, reduceIte, Bool.false_eq_true, Int.reduceNeg, Int.reduceLT, Int.reduceLE, Int.reducePow, Nat.reducePow, Nat.reduceLT, Nat.reduceLeDiff, Nat.reduceAdd, Int.reduceToNat, and_self, Nat.zero_le, Bool.not_true, Bool.not_false, Bool.not_eq_true, zero_add_nat, h1, hix]; rfl)]
      simp only [sIf, sSet, sRet, sNil, sNo, sApp, sAug, sAsg, sExpr, sFrz, sPar, sRev, sRetN, frz1, mOp, mVar, mC, mB, mNot, mAnd, mOr, mNeg, mIf, bNot, bAnd, bOr, bYes, mTup, mLst, aNil, aCons, nb, mFn, fLen, fList, fTuple, fMax2, fMin2, mIsT, isT_int_int, isT_int_bl, isT_bool_int, isT_bool_bl, isT_tuple_tup, isT_list_lst, mIsNet, mWires, mComps, mChain, fAdd_int, fSub_int, fMul_r, fMul_l, fDiv_c, fMod_c, fPow_c, fLt_int, fLe_int, fGt_int, fGe_int, fEq_int, fNe_int, fEq_bl, fNe_bl, fAdd_tup, fAdd_lst, fIx_lst, fIx_tup, fIx_frz, mSl, pNone, pSome, fIsN, fIsB, gN, gT, gsN, gTs, gsNil, gsCons, gIx, mCall, mMeth, isNetD, postC, imm, imms, List.getElem?_cons_zero, List.getElem?_cons_succ, List.set_cons_zero, List.set_cons_succ, Option.bind_some, Option.bind_none, Option.map_some, Option.map_none, Option.or_some, Option.or_none, Option.none_or, List.map_cons, List.map_nil, List.all_cons, List.all_nil, Bool.and_true, Bool.true_and, Bool.and_false, Bool.false_and, if_true, if_false, reduceCtorEq, decide_true, decide_false, ne_eq, not_true_eq_false, not_false_eq_true, List.length_cons, List.length_nil, List.getElem?_nil, List.set_nil, reduceIte, Bool.false_eq_true, Int.reduceNeg, Int.reduceLT, Int.reduceLE, Int.reducePow, Nat.reducePow, Nat.reduceLT, Nat.reduceLeDiff, Nat.reduceAdd, Int.reduceToNat, and_self, Nat.zero_le, Bool.not_true, Bool.not_false, Bool.not_eq_true, zero_add_nat, hl, ea]
theorem numbers_ok (ns : List Int) (count : Nat) (hc : count ≤ 1000) : ∃ xs : List Int, xs.length = count ∧ (∀ x ∈ xs, 0 ≤ x ∧ x < 1000000) ∧ f__law_numbers [.frz ns, .int count] = some (.lst (iL xs), true) := by
  unfold f__law_numbers runF b__law_numbers
  simp only [List.map_cons, List.map_nil, List.length_cons, List.length_nil, List.replicate, List.cons_append, List.nil_append]
  -- the head
  obtain ⟨rest0, bd, hh⟩ : ∃ rest : Int, ∃ bd : Bool, ∀ k : S, sSeq (sSet 2 (mC (.int 0))) (sSeq (sIf (mB (mOp fGt (mFn fLen (aCons (mVar 0) aNil)) (mC (.int 0)))) (sSet 2 (mOp fIx (mVar 0) (mC (.int 0)))) sNil) (sSeq (sSet 3 (mOp fGe (mVar 2) (mOp fPow (mC (.int 10)) (mC (.int 18))))) (sSeq (sSet 4 (mLst aNil)) k)))
        [some (.frz ns, false), some (.int count, false), none, none, none, none, none] = k [some (.frz ns, false), some (.int count, false), some (.int rest, false), some (.bl bd, false), some (.lst [], true), none, none] := by
    have hp : CPow 10 18 := by unfold CPow; decide
    have hl0 : 0 ≤ lim := Nat.zero_le _
    cases ns with
    | nil =>
      refine ⟨0, false, fun k => ?_⟩
      rw [seq_nx (by simp only [sIf, sSet, sRet, sNil, sNo, sApp, sAug, sAsg, sExpr, sFrz, sPar, sRev, sRetN, frz1, mOp, mVar, mC, mB, mNot, mAnd, mOr, mNeg, mIf, bNot, bAnd, bOr, bYes, mTup, mLst, aNil, aCons, nb, mFn, fLen, fList, fTuple, fMax2, fMin2, mIsT, isT_int_int, isT_int_bl, isT_bool_int, isT_bool_bl, isT_tuple_tup, isT_list_lst, mIsNet, mWires, mComps, mChain, fAdd_int, fSub_int, fMul_r, fMul_l, fDiv_c, fMod_c, fPow_c, fLt_int, fLe_int, fGt_int, fGe_int, fEq_int, fNe_int, fEq_bl, fNe_bl, fAdd_tup, fAdd_lst, fIx_lst, fIx_tup, fIx_frz, mSl, pNone, pSome, fIsN, fIsB, gN, gT, gsN, gTs, gsNil, gsCons, gIx, mCall, mMeth, isNetD, postC, imm, imms, List.getElem?_cons_zero, List.getElem?_cons_succ, List.set_cons_zero, List.set_cons_succ, Option.bind_some, Option.bind_none, Option.map_some, Option.map_none, Option.or_some, Option.or_none, Option.none_or, List.map_cons, List.map_nil, List.all_cons, List.all_nil, Bool.and_true, Bool.true_and, Bool.and_false, Bool.false_and, if_true, if_false, reduceCtorEq, decide_true, decide_false, ne_eq, not_true_eq_false, not_false_eq_true, List.length_cons, List.length_nil, List.getElem?_nil, List.set_nil, reduceIte, Bool.false_eq_true, Int.reduceNeg, Int.reduceLT, Int.reduceLE, Int.reducePow, Nat.reducePow, Nat.reduceLT, Nat.reduceLeDiff, Nat.reduceAdd, Int.reduceToNat, and_self, Nat.zero_le, Bool.not_true, Bool.not_false, Bool.not_eq_true, zero_add_nat]; rfl), seq_nx (by simp only [sIf, sSet, sRet, sNil, sNo, sApp, sAug, sAsg, sExpr, sFrz, sPar, sRev, sRetN, frz1, mOp, mVar, mC, mB, mNot, mAnd, mOr, mNeg, mIf, bNot, bAnd, bOr, bYes, mTup, mLst, aNil, aCons, nb, mFn, fLen, fList, fTuple, fMax2, fMin2, mIsT, isT_int_int, isT_int_bl, isT_bool_int, isT_bool_bl, isT_tuple_tup, isT_list_lst, mIsNet, mWires, mComps, mChain, fAdd_int, fSub_int, fMul_r, fMul_l, fDiv_c, fMod_c, fPow_c, fLt_int, fLe_int, fGt_int, fGe_int, fEq_int, fNe_int, fEq_bl, fNe_bl, fAdd_tup, fAdd_lst, fIx_lst, fIx_tup, fIx_frz, mSl, pNone, pSome, fIsN, fIsB, gN, gT, gsN, gTs, gsNil, gsCons, gIx, mCall, mMeth, isNetD, postC, imm, imms, List.getElem?_cons_zero, List.getElem?_cons_succ, List.set_cons_zero, List.set_cons_succ, Option.bind_some, Option.bind_none, Option.map_some, Option.map_none, Option.or_some, Option.or_none, Option.none_or, List.map_cons, List.map_nil, List.all_cons, List.all_nil, Bool.and_true, Bool.true_and, Bool.and_false, Bool.false_and, if_true, if_false, reduceCtorEq, decide_true, decide_false, ne_eq, not_true_eq_false, not_false_eq_true, List.length_cons, List.length_nil, List.getElem?_nil, List.set_nil, reduceIte, Bool.false_eq_true, Int.reduceNeg, Int.reduceLT, Int.reduceLE, Int.reducePow, Nat.reducePow, Nat.reduceLT, Nat.reduceLeDiff, Nat.reduceAdd, Int.reduceToNat, and_self, Nat.zero_le, Bool.not_true, Bool.not_false, Bool.not_eq_true, zero_add_nat]; rfl), seq_nx (by simp only [sIf, sSet, sRet, sNil, sNo, sApp, sAug, sAsg, sExpr, sFrz, sPar, sRev, sRetN, frz1, mOp, mVar, mC, mB, mNot, mAnd, mOr, mNeg, mIf, bNot, bAnd, bOr, bYes, mTup, mLst, aNil, aCons, nb, mFn, fLen, fList, fTuple, fMax2, fMin2, mIsT, isT_int_int, isT_int_bl, isT_bool_int, isT_bool_bl, isT_tuple_tup, isT_list_lst, mIsNet, mWires, mComps, mChain, fAdd_int, fSub_int, fMul_r, fMul_l, fDiv_c, fMod_c, fPow_c, fLt_int, fLe_int, fGt_int, fGe_int, fEq_int, fNe_int, fEq_bl, fNe_bl, fAdd_tup, fAdd_lst, fIx_lst, fIx_tup, fIx_frz, mSl, pNone, pSome, fIsN, fIsB, gN, gT, gsN, gTs, gsNil, gsCons, gIx, mCall, mMeth, isNetD, postC, imm, imms, List.getElem?_cons_zero, List.getElem?_cons_succ, List.set_cons_zero, List.set_cons_succ, Option.bind_some, Option.bind_none, Option.map_some, Option.map_none, Option.or_some, Option.or_none, Option.none_or, List.map_cons, List.map_nil, List.all_cons, List.all_nil, Bool.and_true, Bool.true_and, Bool.and_false, Bool.false_and, if_true, if_false, reduceCtorEq, decide_true, decide_false, ne_eq, not_true_eq_false, not_false_eq_true, List.length_cons, List.length_nil, List.getElem?_nil, List.set_nil, reduceIte, Bool.false_eq_true, Int.reduceNeg, Int.reduceLT, Int.reduceLE, Int.reducePow, Nat.reducePow, Nat.reduceLT, Nat.reduceLeDiff, Nat.reduceAdd, Int.reduceToNat, and_self, Nat.zero_le, Bool.not_true, Bool.not_false, Bool.not_eq_true, zero_add_nat, hp]; rfl), seq_nx (by simp only [sIf, sSet, sRet, sNil, sNo, sApp, sAug, sAsg, sExpr, sFrz, sPar, sRev, sRetN, frz1, mOp, mVar, mC, mB, mNot, mAnd, mOr, mNeg, mIf, bNot, bAnd, bOr, bYes, mTup, mLst, aNil, aCons, nb, mFn, fLen, fList, fTuple, fMax2, fMin2, mIsT, isT_int_int, isT_int_bl, isT_bool_int, isT_bool_bl, isT_tuple_tup, isT_list_lst, mIsNet, mWires, mComps, mChain, fAdd_int, fSub_int, fMul_r, fMul_l, fDiv_c, fMod_c, fPow_c, fLt_int, fLe_int, fGt_int, fGe_int, fEq_int, fNe_int, fEq_bl, fNe_bl, fAdd_tup, fAdd_lst, fIx_lst, fIx_tup, fIx_frz, mSl, pNone, pSome, fIsN, fIsB, gN, gT, gsN, gTs, gsNil, gsCons, gIx, mCall, mMeth, isNetD, postC, imm, imms, List.getElem?_cons_zero, List.getElem?_cons_succ, List.set_cons_zero, List.set_cons_succ, Option.bind_some, Option.bind_none, Option.map_some, Option.map_none, Option.or_some, Option.or_none, Option.none_or, List.map_cons, List.map_nil, List.all_cons, List.all_nil, Bool.and_true, Bool.true_and, Bool.and_false, Bool.false_and, if_true, if_false, reduceCtorEq, decide_true, decide_false, ne_eq, not_true_eq_false, not_false_eq_true, List.length_cons, List.length_nil, List.getElem?_nil, List.set_nil, reduceIte, Bool.false_eq_true, Int.reduceNeg, Int.reduceLT, Int.reduceLE, Int.reducePow, Nat.reducePow, Nat.reduceLT, Nat.reduceLeDiff, Nat.reduceAdd, Int.reduceToNat, and_self, Nat.zero_le, Bool.not_true, Bool.not_false, Bool.not_eq_true, zero_add_nat, hl0]; rfl)]
    | cons n ns =>
      have h0 : atI (n :: ns) 0 = some n := atI_nat (j := 0) rfl
      have hpos : (0 : Int) < ((ns.length + 1 : Nat) : Int) := by omega
      refine ⟨n, decide ((1000000000000000000 : Int) ≤ n), fun k => ?_⟩
      rw [seq_nx (by simp only [sIf, sSet, sRet, sNil, sNo, sApp, sAug, sAsg, sExpr, sFrz, sPar, sRev, sRetN, frz1, mOp, mVar, mC, mB, mNot, mAnd, mOr, mNeg, mIf, bNot, bAnd, bOr, bYes, mTup, mLst, aNil, aCons, nb, mFn, fLen, fList, fTuple, fMax2, fMin2, mIsT, isT_int_int, isT_int_bl, isT_bool_int, isT_bool_bl, isT_tuple_tup, isT_list_lst, mIsNet, mWires, mComps, mChain, fAdd_int, fSub_int, fMul_r, fMul_l, fDiv_c, fMod_c, fPow_c, fLt_int, fLe_int, fGt_int, fGe_int, fEq_int, fNe_int, fEq_bl, fNe_bl, fAdd_tup, fAdd_lst, fIx_lst, fIx_tup, fIx_frz, mSl, pNone, pSome, fIsN, fIsB, gN, gT, gsN, gTs, gsNil, gsCons, gIx, mCall, mMeth, isNetD, postC, imm, imms, List.getElem?_cons_zero, List.getElem?_cons_succ, List.set_cons_zero, List.set_cons_succ, Option.bind_some, Option.bind_none, Option.map_some, Option.map_none, Option.or_some, Option.or_none, Option.none_or, List.map_cons, List.map_nil, List.all_cons, List.all_nil, Bool.and_true, Bool.true_and, Bool.and_false, Bool.false_and, if_true, if_false, reduceCtorEq, decide_true, decide_false, ne_eq, not_true_eq_false, not_false_eq_true, List.length_cons, List.length_nil, List.getElem?_nil, List.set_nil, reduceIte, Bool.false_eq_true, Int.reduceNeg, Int.reduceLT, Int.reduceLE, Int.reducePow, Nat.reducePow, Nat.reduceLT, Nat.reduceLeDiff, Nat.reduceAdd, Int.reduceToNat, and_self, Nat.zero_le, Bool.not_true, Bool.not_false, Bool.not_eq_true, zero_add_nat]; rfl), seq_nx (by simp only [sIf, sSet, sRet, sNil, sNo, sApp, sAug, sAsg, sExpr, sFrz, sPar, sRev, sRetN, frz1, mOp, mVar, mC, mB, mNot, mAnd, mOr, mNeg, mIf, bNot, bAnd, bOr, bYes, mTup, mLst, aNil, aCons, nb, mFn, fLen, fList, fTuple, fMax2, fMin2, mIsT, isT_int_int, isT_int_bl, isT_bool_int, isT_bool_bl, isT_tuple_tup, isT_list_lst, mIsNet, mWires, mComps, mChain, fAdd_int, fSub_int, fMul_r, fMul_l, fDiv_c, fMod_c, fPow_c, fLt_int, fLe_int, fGt_int, fGe_int, fEq_int, fNe_int, fEq_bl, fNe_bl, fAdd_tup, fAdd_lst, fIx_lst, fIx_tup, fIx_frz, mSl, pNone, pSome, fIsN, fIsB, gN, gT, gsN, gTs, gsNil, gsCons, gIx, mCall, mMeth, isNetD, postC, imm, imms, List.getElem?_cons_zero, List.getElem?_cons_succ, List.set_cons_zero, List.set_cons_succ, Option.bind_some, Option.bind_none, Option.map_some, Option.map_none, Option.or_some, Option.or_none, Option.none_or, List.map_cons, List.map_nil, List.all_cons, List.all_nil, Bool.and_true, Bool.true_and, Bool.and_false, Bool.false_and, if_true, if_false, reduceCtorEq, decide_true, decide_false, ne_eq, not_true_eq_false, not_false_eq_true, List.length_cons, List.length_nil, List.getElem?_nil, List.set_nil, reduceIte, Bool.false_eq_true, Int.reduceNeg, Int.reduceLT, Int.reduceLE, Int.reducePow, Nat.reducePow, Nat.reduceLT, Nat.reduceLeDiff, Nat.reduceAdd, Int.reduceToNat, and_self, Nat.zero_le, Bool.not_true, Bool.not_false, Bool.not_eq_true, zero_add_nat, hpos, h0]; rfl), seq_nx (by simp only [sIf, sSet, sRet, sNil, sNo, sApp, sAug, sAsg, sExpr, sFrz, sPar, sRev, sRetN, frz1, mOp, mVar, mC, mB, mNot, mAnd, mOr, mNeg, mIf, bNot, bAnd, bOr, bYes, mTup, mLst, aNil, aCons, nb, mFn, fLen, fList, fTuple, fMax2, fMin2, mIsT, isT_int_int, isT_int_bl, isT_bool_int, isT_bool_bl, isT_tuple_tup, isT_list_lst, mIsNet, mWires, mComps, mChain, fAdd_int, fSub_int, fMul_r, fMul_l, fDiv_c, fMod_c, fPow_c, fLt_int, fLe_int, fGt_int, fGe_int, fEq_int, fNe_int, fEq_bl, fNe_bl, fAdd_tup, fAdd_lst, fIx_lst, fIx_tup, fIx_frz, mSl, pNone, pSome, fIsN, fIsB, gN, gT, gsN, gTs, gsNil, gsCons, gIx, mCall, mMeth, isNetD, postC, imm, imms, List.getElem?_cons_zero, List.getElem?_cons_succ, List.set_cons_zero, List.set_cons_succ, Option.bind_some, Option.bind_none, Option.map_some, Option.map_none, Option.or_some, Option.or_none, Option.none_or, List.map_cons, List.map_nil, List.all_cons, List.all_nil, Bool.and_true, Bool.true_and, Bool.and_false, Bool.false_and, if_true, if_false, reduceCtorEq, decide_true, decide_false, ne_eq, not_true_eq_false, not_false_eq_true, List.length_cons, List.length_nil, List.getElem?_nil, List.set_nil, reduceIte, Bool.false_eq_true, Int.reduceNeg, Int.reduceLT, Int.reduceLE, Int.reducePow, Nat.reducePow, Nat.reduceLT, Nat.reduceLeDiff, Nat.reduceAdd, Int.reduceToNat, and_self, Nat.zero_le, Bool.not_true, Bool.not_false, Bool.not_eq_true, zero_add_nat, hp]; rfl), seq_nx (by simp only [sIf, sSet, sRet, sNil, sNo, sApp, sAug, sAsg, sExpr, sFrz, sPar, sRev, sRetN, frz1, mOp, mVar, mC, mB, mNot, mAnd, mOr, mNeg, mIf, bNot, bAnd, bOr, bYes, mTup, mLst, aNil, aCons, nb, mFn, fLen, fList, fTuple, fMax2, fMin2, mIsT, isT_int_int, isT_int_bl, isT_bool_int, isT_bool_bl, isT_tuple_tup, isT_list_lst, mIsNet, mWires, mComps, mChain, fAdd_int, fSub_int, fMul_r, fMul_l, fDiv_c, fMod_c, fPow_c, fLt_int, fLe_int, fGt_int, fGe_int, fEq_int, fNe_int, fEq_bl, fNe_bl, fAdd_tup, fAdd_lst, fIx_lst, fIx_tup, fIx_frz, mSl, pNone, pSome, fIsN, fIsB, gN, gT, gsN, gTs, gsNil, gsCons, gIx, mCall, mMeth, isNetD, postC, imm, imms, List.getElem?_cons_zero, List.getElem?_cons_succ, List.set_cons_zero, List.set_cons_succ, Option.bind_some, Option.bind_none, Option.map_some, Option.map_none, Option.or_some, Option.or_none, Option.none_or, List.map_cons, List.map_nil, List.all_cons, List.all_nil, Bool.and_true, Bool.true_and, Bool.and_false, Bool.false_and, if_true, if_false, reduceCtorEq, decide_true, decide_false, ne_eq, not_true_eq_false, not_false_eq_true, List.length_cons, List.length_nil, List.getElem?_nil, List.set_nil, reduceIte, Bool.false_eq_true, Int.reduceNeg, Int.reduceLT, Int.reduceLE, Int.reducePow, Nat.reducePow, Nat.reduceLT, Nat.reduceLeDiff, Nat.reduceAdd, Int.reduceToNat, and_self, Nat.zero_le, Bool.not_true, Bool.not_false, Bool.not_eq_true, zero_add_nat, hl0]; rfl)]
  rw [hh]
  have loop := forGo0 (g := gN 5) (m := nbody)
    (fun j ρ => ∃ (rest : Int) (xs : List Int) (a b : Option (D × Bool)), xs.length = j ∧ (∀ x ∈ xs, 0 ≤ x ∧ x < 1000000) ∧ ρ = [some (.frz ns, false), some (.int count, false), some (.int rest, false), some (.bl bd, false), some (.lst (iL xs), true), a, b])
    (ds := rngD 0 count) (ρ := [some (.frz ns, false), some (.int count, false), some (.int rest0, false), some (.bl bd, false), some (.lst [], true), none, none]) ⟨rest0, [], none, none, rfl, by simp, rfl⟩ ?_
  · obtain ⟨ρ', h1, rest, xs, a, b, hl, hx, rfl⟩ := loop
    rw [rng_len] at hl
    refine ⟨xs, hl, hx, ?_⟩
    have hr : iR1 (aCons (mVar 1) aNil) [some (.frz ns, false), some (.int count, false), some (.int rest0, false), some (.bl bd, false), some (.lst [], true), none, none] = some (rngD 0 count) := by
      exact iR1_ok (a := .pure) (by simp only [sIf, sSet, sRet, sNil, sNo, sApp, sAug, sAsg, sExpr, sFrz, sPar, sRev, sRetN, frz1, mOp, mVar, mC, mB, mNot, mAnd, mOr, mNeg, mIf, bNot, bAnd, bOr, bYes, mTup, mLst, aNil, aCons, nb, mFn, fLen, fList, fTuple, fMax2, fMin2, mIsT, isT_int_int, isT_int_bl, isT_bool_int, isT_bool_bl, isT_tuple_tup, isT_list_lst, mIsNet, mWires, mComps, mChain, fAdd_int, fSub_int, fMul_r, fMul_l, fDiv_c, fMod_c, fPow_c, fLt_int, fLe_int, fGt_int, fGe_int, fEq_int, fNe_int, fEq_bl, fNe_bl, fAdd_tup, fAdd_lst, fIx_lst, fIx_tup, fIx_frz, mSl, pNone, pSome, fIsN, fIsB, gN, gT, gsN, gTs, gsNil, gsCons, gIx, mCall, mMeth, isNetD, postC, imm, imms, List.getElem?_cons_zero, List.getElem?_cons_succ, List.set_cons_zero, List.set_cons_succ, Option.bind_some, Option.bind_none, Option.map_some, Option.map_none, Option.or_some, Option.or_none, Option.none_or, List.map_cons, List.map_nil, List.all_cons, List.all_nil, Bool.and_true, Bool.true_and, Bool.and_false, Bool.false_and, if_true, if_false, reduceCtorEq, decide_true, decide_false, ne_eq, not_true_eq_false, not_false_eq_true, List.length_cons, List.length_nil, List.getElem?_nil, List.set_nil, reduceIte, Bool.false_eq_true, Int.reduceNeg, Int.reduceLT, Int.reduceLE, Int.reducePow, Nat.reducePow, Nat.reduceLT, Nat.reduceLeDiff, Nat.reduceAdd, Int.reduceToNat, and_self, Nat.zero_le, Bool.not_true, Bool.not_false, Bool.not_eq_true, zero_add_nat]) (by omega)
    unfold nbody at h1
    rw [seq_nx ((for_ok hr).trans h1)]
    simp only [sIf, sSet, sRet, sNil, sNo, sApp, sAug, sAsg, sExpr, sFrz, sPar, sRev, sRetN, frz1, mOp, mVar, mC, mB, mNot, mAnd, mOr, mNeg, mIf, bNot, bAnd, bOr, bYes, mTup, mLst, aNil, aCons, nb, mFn, fLen, fList, fTuple, fMax2, fMin2, mIsT, isT_int_int, isT_int_bl, isT_bool_int, isT_bool_bl, isT_tuple_tup, isT_list_lst, mIsNet, mWires, mComps, mChain, fAdd_int, fSub_int, fMul_r, fMul_l, fDiv_c, fMod_c, fPow_c, fLt_int, fLe_int, fGt_int, fGe_int, fEq_int, fNe_int, fEq_bl, fNe_bl, fAdd_tup, fAdd_lst, fIx_lst, fIx_tup, fIx_frz, mSl, pNone, pSome, fIsN, fIsB, gN, gT, gsN, gTs, gsNil, gsCons, gIx, mCall, mMeth, isNetD, postC, imm, imms, List.getElem?_cons_zero, List.getElem?_cons_succ, List.set_cons_zero, List.set_cons_succ, Option.bind_some, Option.bind_none, Option.map_some, Option.map_none, Option.or_some, Option.or_none, Option.none_or, List.map_cons, List.map_nil, List.all_cons, List.all_nil, Bool.and_true, Bool.true_and, Bool.and_false, Bool.false_and, if_true, if_false, reduceCtorEq, decide_true, decide_false, ne_eq, not_true_eq_false, not_false_eq_true, List.length_cons, List.length_nil, List.getElem?_nil, List.set_nil, reduceIte, Bool.false_eq_true, Int.reduceNeg, Int.reduceLT, Int.reduceLE, Int.reducePow, Nat.reducePow, Nat.reduceLT, Nat.reduceLeDiff, Nat.reduceAdd, Int.reduceToNat, and_self, Nat.zero_le, Bool.not_true, Bool.not_false, Bool.not_eq_true, zero_add_nat]
  · rintro j d ρ hd ⟨rest, xs, a, b, hl, hx, rfl⟩
    obtain ⟨hj, rfl⟩ := rng_get hd
    have hjl : (iL xs).length < lim := by simp only [List.length_map]; unfold lim; omega
    obtain ⟨rest', x, a', b', hx1, hb'⟩ := nbody_ok (ns := ns) (c := count) (rest := rest) (bd := bd) (xs := xs) (j := j) (b := b) hjl
    refine ⟨_, _, rfl, hb', rest', xs ++ [x], a', b', by simp [hl], ?_, rfl⟩
    intro y hy
    rcases List.mem_append.mp hy with h | h
    · exact hx y h
    · simp only [List.mem_singleton] at h; subst h; exact hx1
end Lw

set_option maxRecDepth 100000
set_option maxHeartbeats 4000000
namespace Lw
open PySem L2 Dt

theorem iL_app (xs : List Int) (x : Int) : iL xs ++ [D.int x] = iL (xs ++ [x]) := by simp
theorem iL_len {xs : List Int} : (iL xs).length = xs.length := List.length_map _
theorem at_nn {xs : List Int} {i : Int} (h0 : 0 ≤ i) (h : i < xs.length) : ∃ x, atI (iL xs) i = some (.int x) ∧ x ∈ xs ∧ xs[i.toNat]? = some x := by
  have hl : i.toNat < xs.length := by omega
  refine ⟨xs[i.toNat], ?_, List.getElem_mem _, List.getElem?_eq_getElem hl⟩
  rw [atI_map, atI_get' h0 hl]; rfl

theorem wires_ok {n most : Int} (h0 : 0 ≤ n) (h1 : 1 ≤ most) (h2 : most ≤ 12) : ∃ w : Int, 1 ≤ w ∧ w ≤ 12 ∧ f__law_wires [.int n, .int most] = some (.int w, false) := by
  unfold f__law_wires runF b__law_wires
  simp only [List.map_cons, List.map_nil, List.length_cons, List.length_nil, Nat.reduceAdd, Nat.sub_self, List.replicate, List.append_nil]
  have hm : (0 : Int) < most := by omega
  cases hb : decide (n / 6 % 4 = 1) with
  | true =>
    have a1 := Int.emod_nonneg (n / 24) (Int.ne_of_gt hm)
    have a2 := Int.emod_lt_of_pos (n / 24) hm
    refine ⟨n / 24 % most + 1, by omega, by omega, ?_⟩
    rw [seq_rt (by simp only [sIf, sSet, sRet, sNil, sNo, sApp, sAug, sAsg, sExpr, sFrz, sPar, sRev, sRetN, frz1, mOp, mVar, mC, mB, mNot, mAnd, mOr, mNeg, mIf, bNot, bAnd, bOr, bYes, mTup, mLst, aNil, aCons, nb, mFn, fLen, fList, fTuple, fMax2, fMin2, mIsT, isT_int_int, isT_int_bl, isT_bool_int, isT_bool_bl, isT_tuple_tup, isT_list_lst, mIsNet, mWires, mComps, mChain, fAdd_int, fSub_int, fMul_r, fMul_l, fDiv_c, fMod_c, fPow_c, fLt_int, fLe_int, fGt_int, fGe_int, fEq_int, fNe_int, fEq_bl, fNe_bl, fAdd_tup, fAdd_lst, fIx_lst, fIx_tup, fIx_frz, mSl, pNone, pSome, fIsN, fIsB, gN, gT, gsN, gTs, gsNil, gsCons, gIx, mCall, mMeth, isNetD, postC, imm, imms, List.getElem?_cons_zero, List.getElem?_cons_succ, List.set_cons_zero, List.set_cons_succ, Option.bind_some, Option.bind_none, Option.map_some, Option.map_none, Option.or_some, Option.or_none, Option.none_or, List.map_cons, List.map_nil, List.all_cons, List.all_nil, Bool.and_true, Bool.true_and, Bool.and_false, Bool.false_and, if_true, if_false, reduceCtorEq, decide_true, decide_false, ne_eq, not_true_eq_false, not_false_eq_true, List.length_cons, List.length_nil, List.getElem?_nil, List.set_nil, reduceIte, Bool.false_eq_true, Int.reduceNeg, Int.reduceLT, Int.reduceLE, Int.reducePow, Nat.reducePow, Nat.reduceLT, Nat.reduceLeDiff, Nat.reduceAdd, Int.reduceToNat, and_self, Nat.zero_le, Bool.not_true, Bool.not_false, Bool.not_eq_true, zero_add_nat, hb, hm]; rfl)]
  | false =>
    have a1 := Int.emod_nonneg n (by decide : (6 : Int) ≠ 0)
    have a2 := Int.emod_lt_of_pos n (by decide : (0 : Int) < 6)
    refine ⟨n % 6 + 1, by omega, by omega, ?_⟩
    rw [seq_nx (by simp only [sIf, sSet, sRet, sNil, sNo, sApp, sAug, sAsg, sExpr, sFrz, sPar, sRev, sRetN, frz1, mOp, mVar, mC, mB, mNot, mAnd, mOr, mNeg, mIf, bNot, bAnd, bOr, bYes, mTup, mLst, aNil, aCons, nb, mFn, fLen, fList, fTuple, fMax2, fMin2, mIsT, isT_int_int, isT_int_bl, isT_bool_int, isT_bool_bl, isT_tuple_tup, isT_list_lst, mIsNet, mWires, mComps, mChain, fAdd_int, fSub_int, fMul_r, fMul_l, fDiv_c, fMod_c, fPow_c, fLt_int, fLe_int, fGt_int, fGe_int, fEq_int, fNe_int, fEq_bl, fNe_bl, fAdd_tup, fAdd_lst, fIx_lst, fIx_tup, fIx_frz, mSl, pNone, pSome, fIsN, fIsB, gN, gT, gsN, gTs, gsNil, gsCons, gIx, mCall, mMeth, isNetD, postC, imm, imms, List.getElem?_cons_zero, List.getElem?_cons_succ, List.set_cons_zero, List.set_cons_succ, Option.bind_some, Option.bind_none, Option.map_some, Option.map_none, Option.or_some, Option.or_none, Option.none_or, List.map_cons, List.map_nil, List.all_cons, List.all_nil, Bool.and_true, Bool.true_and, Bool.and_false, Bool.false_and, if_true, if_false, reduceCtorEq, decide_true, decide_false, ne_eq, not_true_eq_false, not_false_eq_true, List.length_cons, List.length_nil, List.getElem?_nil, List.set_nil, reduceIte, Bool.false_eq_true, Int.reduceNeg, Int.reduceLT, Int.reduceLE, Int.reducePow, Nat.reducePow, Nat.reduceLT, Nat.reduceLeDiff, Nat.reduceAdd, Int.reduceToNat, and_self, Nat.zero_le, Bool.not_true, Bool.not_false, Bool.not_eq_true, zero_add_nat, hb]; rfl)]
    simp only [sIf, sSet, sRet, sNil, sNo, sApp, sAug, sAsg, sExpr, sFrz, sPar, sRev, sRetN, frz1, mOp, mVar, mC, mB, mNot, mAnd, mOr, mNeg, mIf, bNot, bAnd, bOr, bYes, mTup, mLst, aNil, aCons, nb, mFn, fLen, fList, fTuple, fMax2, fMin2, mIsT, isT_int_int, isT_int_bl, isT_bool_int, isT_bool_bl, isT_tuple_tup, isT_list_lst, mIsNet, mWires, mComps, mChain, fAdd_int, fSub_int, fMul_r, fMul_l, fDiv_c, fMod_c, fPow_c, fLt_int, fLe_int, fGt_int, fGe_int, fEq_int, fNe_int, fEq_bl, fNe_bl, fAdd_tup, fAdd_lst, fIx_lst, fIx_tup, fIx_frz, mSl, pNone, pSome, fIsN, fIsB, gN, gT, gsN, gTs, gsNil, gsCons, gIx, mCall, mMeth, isNetD, postC, imm, imms, List.getElem?_cons_zero, List.getElem?_cons_succ, List.set_cons_zero, List.set_cons_succ, Option.bind_some, Option.bind_none, Option.map_some, Option.map_none, Option.or_some, Option.or_none, Option.none_or, List.map_cons, List.map_nil, List.all_cons, List.all_nil, Bool.and_true, Bool.true_and, Bool.and_false, Bool.false_and, if_true, if_false, reduceCtorEq, decide_true, decide_false, ne_eq, not_true_eq_false, not_false_eq_true, List.length_cons, List.length_nil, List.getElem?_nil, List.set_nil, reduceIte, Bool.false_eq_true, Int.reduceNeg, Int.reduceLT, Int.reduceLE, Int.reducePow, Nat.reducePow, Nat.reduceLT, Nat.reduceLeDiff, Nat.reduceAdd, Int.reduceToNat, and_self, Nat.zero_le, Bool.not_true, Bool.not_false, Bool.not_eq_true, zero_add_nat]

abbrev prs (ps : List (Int × Int)) : List D := ps.map fun p => .tup [.int p.1, .int p.2]
def okP (w : Int) (ps : List (Int × Int)) : Prop := ∀ p ∈ ps, 0 ≤ p.1 ∧ p.1 < w ∧ 0 ≤ p.2 ∧ p.2 < w ∧ p.1 ≠ p.2
theorem okP_okPairs {w : Int} : ∀ {ps : List (Int × Int)}, okP w ps → okPairs w (prs ps) = true
  | [], _ => rfl
  | p :: ps, h => by
    simp only [prs, List.map_cons, okPairs, List.all_cons, Bool.and_eq_true]
    refine ⟨?_, okP_okPairs (ps := ps) fun q hq => h q (List.mem_cons_of_mem _ hq)⟩
    simp only [okPair, decide_eq_true_eq]
    exact h p List.mem_cons_self

def pbody : S := (sSeq (sSet 6 (mOp fIx (mVar 0) (mOp fAdd (mOp fAdd (mVar 1) (mC (.int 1))) (mVar 5)))) (sSeq (sSet 7 (mOp fMod (mVar 6) (mVar 2))) (sSeq (sSet 8 (mOp fMod (mOp fDiv (mVar 6) (mVar 2)) (mOp fSub (mVar 2) (mC (.int 1))))) (sSeq (sIf (mB (mOp fGe (mVar 8) (mVar 7))) (sSet 8 (mOp fAdd (mVar 8) (mC (.int 1)))) sNil) (sIf (bAnd (mB (mVar 3)) (mB (mOp fGt (mVar 7) (mVar 8)))) (sApp 4 (mTup (aCons (mVar 8) (aCons (mVar 7) aNil)))) (sApp 4 (mTup (aCons (mVar 7) (aCons (mVar 8) aNil)))))))))
theorem lim2 : 2 ≤ lim := by decide
theorem prs_app (ps : List (Int × Int)) (p : Int × Int) : prs ps ++ [D.tup [.int p.1, .int p.2]] = prs (ps ++ [p]) := by simp
theorem pbody_ok {xs : List Int} {place w : Int} {std : Bool} {ps : List (Int × Int)} {j : Nat} {a0 b0 c0 : Option (D × Bool)} (hx : ∀ x ∈ xs, 0 ≤ x ∧ x < 1000000) (hp : 0 ≤ place) (hl : place + 1 + j < xs.length) (hw : 2 ≤ w) (hw2 : w ≤ 12) (hps : (prs ps).length < lim) :
    ∃ (p : Int × Int) (a b c : Option (D × Bool)), (0 ≤ p.1 ∧ p.1 < w ∧ 0 ≤ p.2 ∧ p.2 < w ∧ p.1 ≠ p.2) ∧ (std = true → p.1 < p.2) ∧
    pbody [some (.lst (iL xs), false), some (.int place, false), some (.int w, false), some (.bl std, false), some (.lst (prs ps), true), some (.int (0 + j), false), a0, b0, c0] = some (.nx [some (.lst (iL xs), false), some (.int place, false), some (.int w, false), some (.bl std, false), some (.lst (prs (ps ++ [p])), true), some (.int j, false), a, b, c]) := by
  obtain ⟨x, e1, hm, _⟩ := at_nn (xs := xs) (i := place + 1 + j) (by omega) hl
  obtain ⟨x0, x1⟩ := hx x hm
  have wp : (0 : Int) < w := by omega
  have wp2 : (0 : Int) < w - 1 := by omega
  have wl : w < 1073741824 := by omega
  have m1 := Int.emod_nonneg x (Int.ne_of_gt wp)
  have m2 := Int.emod_lt_of_pos x wp
  have m3 := Int.emod_nonneg (x / w) (Int.ne_of_gt wp2)
  have m4 := Int.emod_lt_of_pos (x / w) wp2
  unfold pbody
  -- the second wire
  obtain ⟨y, hy0, hy1, hy2, hh⟩ : ∃ y : Int, 0 ≤ y ∧ y < w ∧ x % w ≠ y ∧ ∀ k : S, sSeq (sSet 6 (mOp fIx (mVar 0) (mOp fAdd (mOp fAdd (mVar 1) (mC (.int 1))) (mVar 5)))) (sSeq (sSet 7 (mOp fMod (mVar 6) (mVar 2))) (sSeq (sSet 8 (mOp fMod (mOp fDiv (mVar 6) (mVar 2)) (mOp fSub (mVar 2) (mC (.int 1))))) (sSeq (sIf (mB (mOp fGe (mVar 8) (mVar 7))) (sSet 8 (mOp fAdd (mVar 8) (mC (.int 1)))) sNil) k)))
      [some (.lst (iL xs), false), some (.int place, false), some (.int w, false), some (.bl std, false), some (.lst (prs ps), true), some (.int (0 + j), false), a0, b0, c0] =
      k [some (.lst (iL xs), false), some (.int place, false), some (.int w, false), some (.bl std, false), some (.lst (prs ps), true), some (.int j, false), some (.int x, false), some (.int (x % w), false), some (.int y, false)] := by
    have st : ∀ k : S, sSeq (sSet 6 (mOp fIx (mVar 0) (mOp fAdd (mOp fAdd (mVar 1) (mC (.int 1))) (mVar 5)))) (sSeq (sSet 7 (mOp fMod (mVar 6) (mVar 2))) (sSeq (sSet 8 (mOp fMod (mOp fDiv (mVar 6) (mVar 2)) (mOp fSub (mVar 2) (mC (.int 1))))) k))
      [some (.lst (iL xs), false), some (.int place, false), some (.int w, false), some (.bl std, false), some (.lst (prs ps), true), some (.int (0 + j), false), a0, b0, c0] =
      k [some (.lst (iL xs), false), some (.int place, false), some (.int w, false), some (.bl std, false), some (.lst (prs ps), true), some (.int j, false), some (.int x, false), some (.int (x % w), false), some (.int (x / w % (w - 1)), false)] := fun k => by
      rw [seq_nx (by simp only [sIf, sSet, sRet, sNil, sNo, sApp, sAug, sAsg, sExpr, sFrz, sPar, sRev, sRetN, frz1, mOp, mVar, mC, mB, mNot, mAnd, mOr, mNeg, mIf, bNot, bAnd, bOr, bYes, mTup, mLst, aNil, aCons, nb, mFn, fLen, fList, fTuple, fMax2, fMin2, mIsT, isT_int_int, isT_int_bl, isT_bool_int, isT_bool_bl, isT_tuple_tup, isT_list_lst, mIsNet, mWires, mComps, mChain, fAdd_int, fSub_int, fMul_r, fMul_l, fDiv_c, fMod_c, fPow_c, fLt_int, fLe_int, fGt_int, fGe_int, fEq_int, fNe_int, fEq_bl, fNe_bl, fAdd_tup, fAdd_lst, fIx_lst, fIx_tup, fIx_frz, mSl, pNone, pSome, fIsN, fIsB, gN, gT, gsN, gTs, gsNil, gsCons, gIx, mCall, mMeth, isNetD, postC, imm, imms, List.getElem?_cons_zero, List.getElem?_cons_succ, List.set_cons_zero, List.set_cons_succ, Option.bind_some, Option.bind_none, Option.map_some, Option.map_none, Option.or_some, Option.or_none, Option.none_or, List.map_cons, List.map_nil, List.all_cons, List.all_nil, Bool.and_true, Bool.true_and, Bool.and_false, Bool.false_and, if_true, if_false, reduceCtorEq, decide_true, decide_false, ne_eq, not_true_eq_false, not_false_eq_true, List.length_cons, List.length_nil, List.getElem?_nil, List.set_nil, reduceIte, Bool.false_eq_true, Int.reduceNeg, Int.reduceLT, Int.reduceLE, Int.reducePow, Nat.reducePow, Nat.reduceLT, Nat.reduceLeDiff, Nat.reduceAdd, Int.reduceToNat, and_self, Nat.zero_le, Bool.not_true, Bool.not_false, Bool.not_eq_true, zero_add_nat, e1]; rfl), seq_nx (by simp only [sIf, sSet, sRet, sNil, sNo, sApp, sAug, sAsg, sExpr, sFrz, sPar, sRev, sRetN, frz1, mOp, mVar, mC, mB, mNot, mAnd, mOr, mNeg, mIf, bNot, bAnd, bOr, bYes, mTup, mLst, aNil, aCons, nb, mFn, fLen, fList, fTuple, fMax2, fMin2, mIsT, isT_int_int, isT_int_bl, isT_bool_int, isT_bool_bl, isT_tuple_tup, isT_list_lst, mIsNet, mWires, mComps, mChain, fAdd_int, fSub_int, fMul_r, fMul_l, fDiv_c, fMod_c, fPow_c, fLt_int, fLe_int, fGt_int, fGe_int, fEq_int, fNe_int, fEq_bl, fNe_bl, fAdd_tup, fAdd_lst, fIx_lst, fIx_tup, fIx_frz, mSl, pNone, pSome, fIsN, fIsB, gN, gT, gsN, gTs, gsNil, gsCons, gIx, mCall, mMeth, isNetD, postC, imm, imms, List.getElem?_cons_zero, List.getElem?_cons_succ, List.set_cons_zero, List.set_cons_succ, Option.bind_some, Option.bind_none, Option.map_some, Option.map_none, Option.or_some, Option.or_none, Option.none_or, List.map_cons, List.map_nil, List.all_cons, List.all_nil, Bool.and_true, Bool.true_and, Bool.and_false, Bool.false_and, if_true, if_false, reduceCtorEq, decide_true, decide_false, ne_eq, not_true_eq_false, not_false_eq_true, List.length_cons, List.length_nil, List.getElem?_nil, List.set_nil, reduceIte, Bool.false_eq_true, Int.reduceNeg, Int.reduceLT, Int.reduceLE, Int.reducePow, Nat.reducePow, Nat.reduceLT, Nat.reduceLeDiff, Nat.reduceAdd, Int.reduceToNat, and_self, Nat.zero_le, Bool.not_true, Bool.not_false, Bool.not_eq_true, zero_add_nat, wp]; rfl), seq_nx (by simp only [sIf, sSet, sRet, sNil, sNo, sApp, sAug, sAsg, sExpr, sFrz, sPar, sRev, sRetN, frz1, mOp, mVar, mC, mB, mNot, mAnd, mOr, mNeg, mIf, bNot, bAnd, bOr, bYes, mTup, mLst, aNil, aCons, nb, mFn, fLen, fList, fTuple, fMax2, fMin2, mIsT, isT_int_int, isT_int_bl, isT_bool_int, isT_bool_bl, isT_tuple_tup, isT_list_lst, mIsNet, mWires, mComps, mChain, fAdd_int, fSub_int, fMul_r, fMul_l, fDiv_c, fMod_c, fPow_c, fLt_int, fLe_int, fGt_int, fGe_int, fEq_int, fNe_int, fEq_bl, fNe_bl, fAdd_tup, fAdd_lst, fIx_lst, fIx_tup, fIx_frz, mSl, pNone, pSome, fIsN, fIsB, gN, gT, gsN, gTs, gsNil, gsCons, gIx, mCall, mMeth, isNetD, postC, imm, imms, List.getElem?_cons_zero, List.getElem?_cons_succ, List.set_cons_zero, List.set_cons_succ, Option.bind_some, Option.bind_none, Option.map_some, Option.map_none, Option.or_some, Option.or_none, Option.none_or, List.map_cons, List.map_nil, List.all_cons, List.all_nil, Bool.and_true, Bool.true_and, Bool.and_false, Bool.false_and, if_true, if_false, reduceCtorEq, decide_true, decide_false, ne_eq, not_true_eq_false, not_false_eq_true, List.length_cons, List.length_nil, List.getElem?_nil, List.set_nil, reduceIte, Bool.false_eq_true, Int.reduceNeg, Int.reduceLT, Int.reduceLE, Int.reducePow, Nat.reducePow, Nat.reduceLT, Nat.reduceLeDiff, Nat.reduceAdd, Int.reduceToNat, and_self, Nat.zero_le, Bool.not_true, Bool.not_false, Bool.not_eq_true, zero_add_nat, wp, wp2, wl]; rfl)]
    cases hb : decide (x % w ≤ x / w % (w - 1)) with
    | true =>
      have := of_decide_eq_true hb
      refine ⟨x / w % (w - 1) + 1, by omega, by omega, by omega, fun k => ?_⟩
      rw [st, seq_nx (by simp only [sIf, sSet, sRet, sNil, sNo, sApp, sAug, sAsg, sExpr, sFrz, sPar, sRev, sRetN, frz1, mOp, mVar, mC, mB, mNot, mAnd, mOr, mNeg, mIf, bNot, bAnd, bOr, bYes, mTup, mLst, aNil, aCons, nb, mFn, fLen, fList, fTuple, fMax2, fMin2, mIsT, isT_int_int, isT_int_bl, isT_bool_int, isT_bool_bl, isT_tuple_tup, isT_list_lst, mIsNet, mWires, mComps, mChain, fAdd_int, fSub_int, fMul_r, fMul_l, fDiv_c, fMod_c, fPow_c, fLt_int, fLe_int, fGt_int, fGe_int, fEq_int, fNe_int, fEq_bl, fNe_bl, fAdd_tup, fAdd_lst, fIx_lst, fIx_tup, fIx_frz, mSl, pNone, pSome, fIsN, fIsB, gN, gT, gsN, gTs, gsNil, gsCons, gIx, mCall, mMeth, isNetD, postC, imm, imms, List.getElem?_cons_zero, List.getElem?_cons_succ, List.set_cons_zero, List.set_cons_succ, Option.bind_some, Option.bind_none, Option.map_some, Option.map_none, Option.or_some, Option.or_none, Option.none_or, List.map_cons, List.map_nil, List.all_cons, List.all_nil, Bool.and_true, Bool.true_and, Bool.and_false, Bool.false_and, if_true, if_false, reduceCtorEq, decide_true, decide_false, ne_eq, not_true_eq_false, not_false_eq_true, List.length_cons, List.length_nil, List.getElem?_nil, List.set_nil, reduceIte, Bool.false_eq_true, Int.reduceNeg, Int.reduceLT, Int.reduceLE, Int.reducePow, Nat.reducePow, Nat.reduceLT, Nat.reduceLeDiff, Nat.reduceAdd, Int.reduceToNat, and_self, Nat.zero_le, Bool.not_true, Bool.not_false, Bool.not_eq_true, zero_add_nat, hb]; rfl)]
    | false =>
      have := of_decide_eq_false hb
      refine ⟨x / w % (w - 1), by omega, by omega, by omega, fun k => ?_⟩
      rw [st, seq_nx (by simp only [sIf, sSet, sRet, sNil, sNo, sApp, sAug, sAsg, sExpr, sFrz, sPar, sRev, sRetN, frz1, mOp, mVar, mC, mB, mNot, mAnd, mOr, mNeg, mIf, bNot, bAnd, bOr, bYes, mTup, mLst, aNil, aCons, nb, mFn, fLen, fList, fTuple, fMax2, fMin2, mIsT, isT_int_int, isT_int_bl, isT_bool_int, isT_bool_bl, isT_tuple_tup, isT_list_lst, mIsNet, mWires, mComps, mChain, fAdd_int, fSub_int, fMul_r, fMul_l, fDiv_c, fMod_c, fPow_c, fLt_int, fLe_int, fGt_int, fGe_int, fEq_int, fNe_int, fEq_bl, fNe_bl, fAdd_tup, fAdd_lst, fIx_lst, fIx_tup, fIx_frz, mSl, pNone, pSome, fIsN, fIsB, gN, gT, gsN, gTs, gsNil, gsCons, gIx, mCall, mMeth, isNetD, postC, imm, imms, List.getElem?_cons_zero, List.getElem?_cons_succ, List.set_cons_zero, List.set_cons_succ, Option.bind_some, Option.bind_none, Option.map_some, Option.map_none, Option.or_some, Option.or_none, Option.none_or, List.map_cons, List.map_nil, List.all_cons, List.all_nil, Bool.and_true, Bool.true_and, Bool.and_false, Bool.false_and, if_true, if_false, reduceCtorEq, decide_true, decide_false, ne_eq, not_true_eq_false, not_false_eq_true, List.length_cons, List.length_nil, List.getElem?_nil, List.set_nil, reduceIte, Bool.false_eq_true, Int.reduceNeg, Int.reduceLT, Int.reduceLE, Int.reducePow, Nat.reducePow, Nat.reduceLT, Nat.reduceLeDiff, Nat.reduceAdd, Int.reduceToNat, and_self, Nat.zero_le, Bool.not_true, Bool.not_false, Bool.not_eq_true, zero_add_nat, hb]; rfl)]
  rw [hh]
  cases hb : (std && decide (y < x % w)) with
  | true =>
    simp only [Bool.and_eq_true, decide_eq_true_eq] at hb
    obtain ⟨rfl, hlt⟩ := hb
    refine ⟨(y, x % w), some (.int x, false), some (.int (x % w), false), some (.int y, false), ⟨hy0, hy1, m1, m2, fun z => hy2 z.symm⟩, fun _ => hlt, ?_⟩
    rw [← prs_app]
    simp only [sIf, sSet, sRet, sNil, sNo, sApp, sAug, sAsg, sExpr, sFrz, sPar, sRev, sRetN, frz1, mOp, mVar, mC, mB, mNot, mAnd, mOr, mNeg, mIf, bNot, bAnd, bOr, bYes, mTup, mLst, aNil, aCons, nb, mFn, fLen, fList, fTuple, fMax2, fMin2, mIsT, isT_int_int, isT_int_bl, isT_bool_int, isT_bool_bl, isT_tuple_tup, isT_list_lst, mIsNet, mWires, mComps, mChain, fAdd_int, fSub_int, fMul_r, fMul_l, fDiv_c, fMod_c, fPow_c, fLt_int, fLe_int, fGt_int, fGe_int, fEq_int, fNe_int, fEq_bl, fNe_bl, fAdd_tup, fAdd_lst, fIx_lst, fIx_tup, fIx_frz, mSl, pNone, pSome, fIsN, fIsB, gN, gT, gsN, gTs, gsNil, gsCons, gIx, mCall, mMeth, isNetD, postC, imm, imms, List.getElem?_cons_zero, List.getElem?_cons_succ, List.set_cons_zero, List.set_cons_succ, Option.bind_some, Option.bind_none, Option.map_some, Option.map_none, Option.or_some, Option.or_none, Option.none_or, List.map_cons, List.map_nil, List.all_cons, List.all_nil, Bool.and_true, Bool.true_and, Bool.and_false, Bool.false_and, if_true, if_false, reduceCtorEq, decide_true, decide_false, ne_eq, not_true_eq_false, not_false_eq_true, List.length_cons, List.length_nil, List.getElem?_nil, List.set_nil, reduceIte, Bool.false_eq_true, Int.reduceNeg, Int.reduceLT, Int.reduceLE, Int.reducePow, Nat.reducePow, Nat.reduceLT, Nat.reduceLeDiff, Nat.reduceAdd, Int.reduceToNat, and_self, Nat.zero_le, Bool.not_true, Bool.not_false, Bool.not_eq_true, zero_add_nat, hlt, hps, lim2]
  | false =>
    refine ⟨(x % w, y), some (.int x, false), some (.int (x % w), false), some (.int y, false), ⟨m1, m2, hy0, hy1, hy2⟩, fun h => ?_, ?_⟩
    · subst h
      simp only [Bool.true_and, decide_eq_false_iff_not] at hb
      show x % w < y
      omega
    · rw [← prs_app]
      cases std with
      | false => simp only [sIf, sSet, sRet, sNil, sNo, sApp, sAug, sAsg, sExpr, sFrz, sPar, sRev, sRetN, frz1, mOp, mVar, mC, mB, mNot, mAnd, mOr, mNeg, mIf, bNot, bAnd, bOr, bYes, mTup, mLst, aNil, aCons, nb, mFn, fLen, fList, fTuple, fMax2, fMin2, mIsT, isT_int_int, isT_int_bl, isT_bool_int, isT_bool_bl, isT_tuple_tup, isT_list_lst, mIsNet, mWires, mComps, mChain, fAdd_int, fSub_int, fMul_r, fMul_l, fDiv_c, fMod_c, fPow_c, fLt_int, fLe_int, fGt_int, fGe_int, fEq_int, fNe_int, fEq_bl, fNe_bl, fAdd_tup, fAdd_lst, fIx_lst, fIx_tup, fIx_frz, mSl, pNone, pSome, fIsN, fIsB, gN, gT, gsN, gTs, gsNil, gsCons, gIx, mCall, mMeth, isNetD, postC, imm, imms, List.getElem?_cons_zero, List.getElem?_cons_succ, List.set_cons_zero, List.set_cons_succ, Option.bind_some, Option.bind_none, Option.map_some, Option.map_none, Option.or_some, Option.or_none, Option.none_or, List.map_cons, List.map_nil, List.all_cons, List.all_nil, Bool.and_true, Bool.true_and, Bool.and_false, Bool.false_and, if_true, if_false, reduceCtorEq, decide_true, decide_false, ne_eq, not_true_eq_false, not_false_eq_true, List.length_cons, List.length_nil, List.getElem?_nil, List.set_nil, reduceIte, Bool.false_eq_true, Int.reduceNeg, Int.reduceLT, Int.reduceLE, Int.reducePow, Nat.reducePow, Nat.reduceLT, Nat.reduceLeDiff, Nat.reduceAdd, Int.reduceToNat, and_self, Nat.zero_le, Bool.not_true, Bool.not_false, Bool.not_eq_true, zero_add_nat, hps, lim2]
      | true =>
        simp only [Bool.true_and] at hb
        simp only [sIf, sSet, sRet, sNil, sNo, sApp, sAug, sAsg, sExpr, sFrz, sPar, sRev, sRetN, frz1, mOp, mVar, mC, mB, mNot, mAnd, mOr, mNeg, mIf, bNot, bAnd, bOr, bYes, mTup, mLst, aNil, aCons, nb, mFn, fLen, fList, fTuple, fMax2, fMin2, mIsT, isT_int_int, isT_int_bl, isT_bool_int, isT_bool_bl, isT_tuple_tup, isT_list_lst, mIsNet, mWires, mComps, mChain, fAdd_int, fSub_int, fMul_r, fMul_l, fDiv_c, fMod_c, fPow_c, fLt_int, fLe_int, fGt_int, fGe_int, fEq_int, fNe_int, fEq_bl, fNe_bl, fAdd_tup, fAdd_lst, fIx_lst, fIx_tup, fIx_frz, mSl, pNone, pSome, fIsN, fIsB, gN, gT, gsN, gTs, gsNil, gsCons, gIx, mCall, mMeth, isNetD, postC, imm, imms, List.getElem?_cons_zero, List.getElem?_cons_succ, List.set_cons_zero, List.set_cons_succ, Option.bind_some, Option.bind_none, Option.map_some, Option.map_none, Option.or_some, Option.or_none, Option.none_or, List.map_cons, List.map_nil, List.all_cons, List.all_nil, Bool.and_true, Bool.true_and, Bool.and_false, Bool.false_and, if_true, if_false, reduceCtorEq, decide_true, decide_false, ne_eq, not_true_eq_false, not_false_eq_true, List.length_cons, List.length_nil, List.getElem?_nil, List.set_nil, reduceIte, Bool.false_eq_true, Int.reduceNeg, Int.reduceLT, Int.reduceLE, Int.reducePow, Nat.reducePow, Nat.reduceLT, Nat.reduceLeDiff, Nat.reduceAdd, Int.reduceToNat, and_self, Nat.zero_le, Bool.not_true, Bool.not_false, Bool.not_eq_true, zero_add_nat, hb, hps, lim2]
theorem pairs_ok {xs : List Int} {place w : Int} {std : Bool} (hx : ∀ x ∈ xs, 0 ≤ x ∧ x < 1000000) (hp : 0 ≤ place) (hl : place + 13 < xs.length) (hw : 1 ≤ w) (hw2 : w ≤ 12) :
    ∃ ps : List (Int × Int), ps.length ≤ 12 ∧ okP w ps ∧ (std = true → ∀ p ∈ ps, p.1 < p.2) ∧ f__law_pairs [.lst (iL xs), .int place, .int w, .bl std] = some (.lst (prs ps), true) := by
  obtain ⟨x, e1, hm, _⟩ := at_nn (xs := xs) (i := place) hp (by omega)
  obtain ⟨x0, x1⟩ := hx x hm
  unfold f__law_pairs runF b__law_pairs
  simp only [List.map_cons, List.map_nil, List.length_cons, List.length_nil, Nat.reduceAdd, Nat.reduceSub, List.replicate, List.cons_append, List.nil_append]
  have hl0 : 0 ≤ lim := Nat.zero_le _
  rw [seq_nx (by simp only [sIf, sSet, sRet, sNil, sNo, sApp, sAug, sAsg, sExpr, sFrz, sPar, sRev, sRetN, frz1, mOp, mVar, mC, mB, mNot, mAnd, mOr, mNeg, mIf, bNot, bAnd, bOr, bYes, mTup, mLst, aNil, aCons, nb, mFn, fLen, fList, fTuple, fMax2, fMin2, mIsT, isT_int_int, isT_int_bl, isT_bool_int, isT_bool_bl, isT_tuple_tup, isT_list_lst, mIsNet, mWires, mComps, mChain, fAdd_int, fSub_int, fMul_r, fMul_l, fDiv_c, fMod_c, fPow_c, fLt_int, fLe_int, fGt_int, fGe_int, fEq_int, fNe_int, fEq_bl, fNe_bl, fAdd_tup, fAdd_lst, fIx_lst, fIx_tup, fIx_frz, mSl, pNone, pSome, fIsN, fIsB, gN, gT, gsN, gTs, gsNil, gsCons, gIx, mCall, mMeth, isNetD, postC, imm, imms, List.getElem?_cons_zero, List.getElem?_cons_succ, List.set_cons_zero, List.set_cons_succ, Option.bind_some, Option.bind_none, Option.map_some, Option.map_none, Option.or_some, Option.or_none, Option.none_or, List.map_cons, List.map_nil, List.all_cons, List.all_nil, Bool.and_true, Bool.true_and, Bool.and_false, Bool.false_and, if_true, if_false, reduceCtorEq, decide_true, decide_false, ne_eq, not_true_eq_false, not_false_eq_true, List.length_cons, List.length_nil, List.getElem?_nil, List.set_nil, reduceIte, Bool.false_eq_true, Int.reduceNeg, Int.reduceLT, Int.reduceLE, Int.reducePow, Nat.reducePow, Nat.reduceLT, Nat.reduceLeDiff, Nat.reduceAdd, Int.reduceToNat, and_self, Nat.zero_le, Bool.not_true, Bool.not_false, Bool.not_eq_true, zero_add_nat, hl0]; rfl)]
  by_cases h1 : w = 1
  · refine ⟨[], by simp, (fun p hp => by cases hp), (fun _ p hp => by cases hp), ?_⟩
    rw [seq_rt (by simp only [sIf, sSet, sRet, sNil, sNo, sApp, sAug, sAsg, sExpr, sFrz, sPar, sRev, sRetN, frz1, mOp, mVar, mC, mB, mNot, mAnd, mOr, mNeg, mIf, bNot, bAnd, bOr, bYes, mTup, mLst, aNil, aCons, nb, mFn, fLen, fList, fTuple, fMax2, fMin2, mIsT, isT_int_int, isT_int_bl, isT_bool_int, isT_bool_bl, isT_tuple_tup, isT_list_lst, mIsNet, mWires, mComps, mChain, fAdd_int, fSub_int, fMul_r, fMul_l, fDiv_c, fMod_c, fPow_c, fLt_int, fLe_int, fGt_int, fGe_int, fEq_int, fNe_int, fEq_bl, fNe_bl, fAdd_tup, fAdd_lst, fIx_lst, fIx_tup, fIx_frz, mSl, pNone, pSome, fIsN, fIsB, gN, gT, gsN, gTs, gsNil, gsCons, gIx, mCall, mMeth, isNetD, postC, imm, imms, List.getElem?_cons_zero, List.getElem?_cons_succ, List.set_cons_zero, List.set_cons_succ, Option.bind_some, Option.bind_none, Option.map_some, Option.map_none, Option.or_some, Option.or_none, Option.none_or, List.map_cons, List.map_nil, List.all_cons, List.all_nil, Bool.and_true, Bool.true_and, Bool.and_false, Bool.false_and, if_true, if_false, reduceCtorEq, decide_true, decide_false, ne_eq, not_true_eq_false, not_false_eq_true, List.length_cons, List.length_nil, List.getElem?_nil, List.set_nil, reduceIte, Bool.false_eq_true, Int.reduceNeg, Int.reduceLT, Int.reduceLE, Int.reducePow, Nat.reducePow, Nat.reduceLT, Nat.reduceLeDiff, Nat.reduceAdd, Int.reduceToNat, and_self, Nat.zero_le, Bool.not_true, Bool.not_false, Bool.not_eq_true, zero_add_nat, h1]; rfl)]; rfl
  · have hb : decide (w = 1) = false := decide_eq_false h1
    rw [seq_nx (by simp only [sIf, sSet, sRet, sNil, sNo, sApp, sAug, sAsg, sExpr, sFrz, sPar, sRev, sRetN, frz1, mOp, mVar, mC, mB, mNot, mAnd, mOr, mNeg, mIf, bNot, bAnd, bOr, bYes, mTup, mLst, aNil, aCons, nb, mFn, fLen, fList, fTuple, fMax2, fMin2, mIsT, isT_int_int, isT_int_bl, isT_bool_int, isT_bool_bl, isT_tuple_tup, isT_list_lst, mIsNet, mWires, mComps, mChain, fAdd_int, fSub_int, fMul_r, fMul_l, fDiv_c, fMod_c, fPow_c, fLt_int, fLe_int, fGt_int, fGe_int, fEq_int, fNe_int, fEq_bl, fNe_bl, fAdd_tup, fAdd_lst, fIx_lst, fIx_tup, fIx_frz, mSl, pNone, pSome, fIsN, fIsB, gN, gT, gsN, gTs, gsNil, gsCons, gIx, mCall, mMeth, isNetD, postC, imm, imms, List.getElem?_cons_zero, List.getElem?_cons_succ, List.set_cons_zero, List.set_cons_succ, Option.bind_some, Option.bind_none, Option.map_some, Option.map_none, Option.or_some, Option.or_none, Option.none_or, List.map_cons, List.map_nil, List.all_cons, List.all_nil, Bool.and_true, Bool.true_and, Bool.and_false, Bool.false_and, if_true, if_false, reduceCtorEq, decide_true, decide_false, ne_eq, not_true_eq_false, not_false_eq_true, List.length_cons, List.length_nil, List.getElem?_nil, List.set_nil, reduceIte, Bool.false_eq_true, Int.reduceNeg, Int.reduceLT, Int.reduceLE, Int.reducePow, Nat.reducePow, Nat.reduceLT, Nat.reduceLeDiff, Nat.reduceAdd, Int.reduceToNat, and_self, Nat.zero_le, Bool.not_true, Bool.not_false, Bool.not_eq_true, zero_add_nat, hb]; rfl)]
    have c1 := Int.emod_nonneg x (by decide : (13 : Int) ≠ 0)
    have c2 := Int.emod_lt_of_pos x (by decide : (0 : Int) < 13)
    have cn : ((x % 13).toNat : Int) = x % 13 := Int.toNat_of_nonneg c1
    have loop := forGo0 (g := gN 5) (m := pbody)
      (fun j ρ => ∃ (ps : List (Int × Int)) (o a b c : Option (D × Bool)), ps.length = j ∧ okP w ps ∧ (std = true → ∀ p ∈ ps, p.1 < p.2) ∧ ρ = [some (.lst (iL xs), false), some (.int place, false), some (.int w, false), some (.bl std, false), some (.lst (prs ps), true), o, a, b, c])
      (ds := rngD 0 (x % 13).toNat) (ρ := [some (.lst (iL xs), false), some (.int place, false), some (.int w, false), some (.bl std, false), some (.lst [], true), none, none, none, none]) ⟨[], none, none, none, none, rfl, fun p hp => (by cases hp), fun _ p hp => (by cases hp), rfl⟩ ?_
    · obtain ⟨ρ', h1, ps, o, a, b, c, hlen, hok, hst, rfl⟩ := loop
      rw [rng_len] at hlen
      refine ⟨ps, by omega, hok, hst, ?_⟩
      unfold pbody at h1
      have hr : iR1 (aCons (mOp fMod (mOp fIx (mVar 0) (mVar 1)) (mC (.int 13))) aNil) [some (.lst (iL xs), false), some (.int place, false), some (.int w, false), some (.bl std, false), some (.lst [], true), none, none, none, none] = some (rngD 0 (x % 13).toNat) :=
        iR1_ok (a := .pure) (by simp only [sIf, sSet, sRet, sNil, sNo, sApp, sAug, sAsg, sExpr, sFrz, sPar, sRev, sRetN, frz1, mOp, mVar, mC, mB, mNot, mAnd, mOr, mNeg, mIf, bNot, bAnd, bOr, bYes, mTup, mLst, aNil, aCons, nb, mFn, fLen, fList, fTuple, fMax2, fMin2, mIsT, isT_int_int, isT_int_bl, isT_bool_int, isT_bool_bl, isT_tuple_tup, isT_list_lst, mIsNet, mWires, mComps, mChain, fAdd_int, fSub_int, fMul_r, fMul_l, fDiv_c, fMod_c, fPow_c, fLt_int, fLe_int, fGt_int, fGe_int, fEq_int, fNe_int, fEq_bl, fNe_bl, fAdd_tup, fAdd_lst, fIx_lst, fIx_tup, fIx_frz, mSl, pNone, pSome, fIsN, fIsB, gN, gT, gsN, gTs, gsNil, gsCons, gIx, mCall, mMeth, isNetD, postC, imm, imms, List.getElem?_cons_zero, List.getElem?_cons_succ, List.set_cons_zero, List.set_cons_succ, Option.bind_some, Option.bind_none, Option.map_some, Option.map_none, Option.or_some, Option.or_none, Option.none_or, List.map_cons, List.map_nil, List.all_cons, List.all_nil, Bool.and_true, Bool.true_and, Bool.and_false, Bool.false_and, if_true, if_false, reduceCtorEq, decide_true, decide_false, ne_eq, not_true_eq_false, not_false_eq_true, List.length_cons, List.length_nil, List.getElem?_nil, List.set_nil, reduceIte, Bool.false_eq_true, Int.reduceNeg, Int.reduceLT, Int.reduceLE, Int.reducePow, Nat.reducePow, Nat.reduceLT, Nat.reduceLeDiff, Nat.reduceAdd, Int.reduceToNat, and_self, Nat.zero_le, Bool.not_true, Bool.not_false, Bool.not_eq_true, zero_add_nat, e1, cn]) (by omega)
      rw [seq_nx ((for_ok hr).trans h1)]
      simp only [sIf, sSet, sRet, sNil, sNo, sApp, sAug, sAsg, sExpr, sFrz, sPar, sRev, sRetN, frz1, mOp, mVar, mC, mB, mNot, mAnd, mOr, mNeg, mIf, bNot, bAnd, bOr, bYes, mTup, mLst, aNil, aCons, nb, mFn, fLen, fList, fTuple, fMax2, fMin2, mIsT, isT_int_int, isT_int_bl, isT_bool_int, isT_bool_bl, isT_tuple_tup, isT_list_lst, mIsNet, mWires, mComps, mChain, fAdd_int, fSub_int, fMul_r, fMul_l, fDiv_c, fMod_c, fPow_c, fLt_int, fLe_int, fGt_int, fGe_int, fEq_int, fNe_int, fEq_bl, fNe_bl, fAdd_tup, fAdd_lst, fIx_lst, fIx_tup, fIx_frz, mSl, pNone, pSome, fIsN, fIsB, gN, gT, gsN, gTs, gsNil, gsCons, gIx, mCall, mMeth, isNetD, postC, imm, imms, List.getElem?_cons_zero, List.getElem?_cons_succ, List.set_cons_zero, List.set_cons_succ, Option.bind_some, Option.bind_none, Option.map_some, Option.map_none, Option.or_some, Option.or_none, Option.none_or, List.map_cons, List.map_nil, List.all_cons, List.all_nil, Bool.and_true, Bool.true_and, Bool.and_false, Bool.false_and, if_true, if_false, reduceCtorEq, decide_true, decide_false, ne_eq, not_true_eq_false, not_false_eq_true, List.length_cons, List.length_nil, List.getElem?_nil, List.set_nil, reduceIte, Bool.false_eq_true, Int.reduceNeg, Int.reduceLT, Int.reduceLE, Int.reducePow, Nat.reducePow, Nat.reduceLT, Nat.reduceLeDiff, Nat.reduceAdd, Int.reduceToNat, and_self, Nat.zero_le, Bool.not_true, Bool.not_false, Bool.not_eq_true, zero_add_nat]
    · rintro j d ρ hd ⟨ps, o, a, b, c, hlen, hok, hst, rfl⟩
      obtain ⟨hj, rfl⟩ := rng_get hd
      have hps : (prs ps).length < lim := by rw [List.length_map]; unfold lim; omega
      obtain ⟨p, a', b', c', hp1, hp2, hb'⟩ := pbody_ok (xs := xs) (place := place) (w := w) (std := std) (ps := ps) (j := j) (a0 := a) (b0 := b) (c0 := c) hx hp (by omega) (by omega) hw2 hps
      refine ⟨_, _, rfl, hb', ps ++ [p], _, a', b', c', by simp [hlen], ?_, ?_, rfl⟩
      · intro q hq
        rcases List.mem_append.mp hq with h | h
        · exact hok q h
        · simp only [List.mem_singleton] at h; subst h; exact hp1
      · intro hs q hq
        rcases List.mem_append.mp hq with h | h
        · exact hst hs q h
        · simp only [List.mem_singleton] at h; subst h; exact hp2 hs

/-! rows -/
def rbody : S := (sSeq (sSet 6 (mOp fIx (mVar 0) (mOp fAdd (mOp fAdd (mVar 1) (mC (.int 1))) (mVar 5)))) (sIf (mB (mOp fEq (mVar 3) (mC (.int 0)))) (sApp 4 (mOp fSub (mOp fMod (mVar 6) (mC (.int 7))) (mC (.int 3)))) (sIf (mB (mOp fEq (mVar 3) (mC (.int 1)))) (sApp 4 (mOp fMod (mVar 6) (mC (.int 2)))) (sIf (mB (mOp fEq (mVar 3) (mC (.int 2)))) (sApp 4 (mOp fAdd (mOp fMul (mOp fSub (mVar 6) (mC (.int 500000))) (mOp fPow (mC (.int 10)) (mC (.int 24)))) (mOp fMod (mVar 6) (mC (.int 3))))) (sApp 4 (mOp fSub (mOp fMod (mVar 6) (mOp fMul (mC (.int 2)) (mVar 2))) (mVar 2)))))))
theorem rbody_ok {xs : List Int} {place w st : Int} {rs : List Int} {j : Nat} {a0 : Option (D × Bool)} (hx : ∀ x ∈ xs, 0 ≤ x ∧ x < 1000000) (hp : 0 ≤ place) (hl : place + 1 + j < xs.length) (hw : 1 ≤ w) (hrs : (iL rs).length < lim) :
    ∃ (r : Int) (a : Option (D × Bool)),
    rbody [some (.lst (iL xs), false), some (.int place, false), some (.int w, false), some (.int st, false), some (.lst (iL rs), true), some (.int (0 + j), false), a0] = some (.nx [some (.lst (iL xs), false), some (.int place, false), some (.int w, false), some (.int st, false), some (.lst (iL (rs ++ [r])), true), some (.int j, false), a]) := by
  obtain ⟨x, e1, hm, _⟩ := at_nn (xs := xs) (i := place + 1 + j) (by omega) hl
  obtain ⟨x0, x1⟩ := hx x hm
  have hpw : CPow 10 24 := by unfold CPow; decide
  have hm1 : -18446744073709551616 < x - 500000 ∧ x - 500000 < 18446744073709551616 := ⟨by omega, by omega⟩
  have w2 : (0 : Int) < 2 * w := by omega
  unfold rbody
  rw [seq_nx (by simp only [sIf, sSet, sRet, sNil, sNo, sApp, sAug, sAsg, sExpr, sFrz, sPar, sRev, sRetN, frz1, mOp, mVar, mC, mB, mNot, mAnd, mOr, mNeg, mIf, bNot, bAnd, bOr, bYes, mTup, mLst, aNil, aCons, nb, mFn, fLen, fList, fTuple, fMax2, fMin2, mIsT, isT_int_int, isT_int_bl, isT_bool_int, isT_bool_bl, isT_tuple_tup, isT_list_lst, mIsNet, mWires, mComps, mChain, fAdd_int, fSub_int, fMul_r, fMul_l, fDiv_c, fMod_c, fPow_c, fLt_int, fLe_int, fGt_int, fGe_int, fEq_int, fNe_int, fEq_bl, fNe_bl, fAdd_tup, fAdd_lst, fIx_lst, fIx_tup, fIx_frz, mSl, pNone, pSome, fIsN, fIsB, gN, gT, gsN, gTs, gsNil, gsCons, gIx, mCall, mMeth, isNetD, postC, imm, imms, List.getElem?_cons_zero, List.getElem?_cons_succ, List.set_cons_zero, List.set_cons_succ, Option.bind_some, Option.bind_none, Option.map_some, Option.map_none, Option.or_some, Option.or_none, Option.none_or, List.map_cons, List.map_nil, List.all_cons, List.all_nil, Bool.and_true, Bool.true_and, Bool.and_false, Bool.false_and, if_true, if_false, reduceCtorEq, decide_true, decide_false, ne_eq, not_true_eq_false, not_false_eq_true, List.length_cons, List.length_nil, List.getElem?_nil, List.set_nil, reduceIte, Bool.false_eq_true, Int.reduceNeg, Int.reduceLT, Int.reduceLE, Int.reducePow, Nat.reducePow, Nat.reduceLT, Nat.reduceLeDiff, Nat.reduceAdd, Int.reduceToNat, and_self, Nat.zero_le, Bool.not_true, Bool.not_false, Bool.not_eq_true, zero_add_nat, e1]; rfl)]
  by_cases h0 : st = 0
  · refine ⟨x % 7 - 3, some (.int x, false), ?_⟩
    rw [← iL_app]
    simp only [sIf, sSet, sRet, sNil, sNo, sApp, sAug, sAsg, sExpr, sFrz, sPar, sRev, sRetN, frz1, mOp, mVar, mC, mB, mNot, mAnd, mOr, mNeg, mIf, bNot, bAnd, bOr, bYes, mTup, mLst, aNil, aCons, nb, mFn, fLen, fList, fTuple, fMax2, fMin2, mIsT, isT_int_int, isT_int_bl, isT_bool_int, isT_bool_bl, isT_tuple_tup, isT_list_lst, mIsNet, mWires, mComps, mChain, fAdd_int, fSub_int, fMul_r, fMul_l, fDiv_c, fMod_c, fPow_c, fLt_int, fLe_int, fGt_int, fGe_int, fEq_int, fNe_int, fEq_bl, fNe_bl, fAdd_tup, fAdd_lst, fIx_lst, fIx_tup, fIx_frz, mSl, pNone, pSome, fIsN, fIsB, gN, gT, gsN, gTs, gsNil, gsCons, gIx, mCall, mMeth, isNetD, postC, imm, imms, List.getElem?_cons_zero, List.getElem?_cons_succ, List.set_cons_zero, List.set_cons_succ, Option.bind_some, Option.bind_none, Option.map_some, Option.map_none, Option.or_some, Option.or_none, Option.none_or, List.map_cons, List.map_nil, List.all_cons, List.all_nil, Bool.and_true, Bool.true_and, Bool.and_false, Bool.false_and, if_true, if_false, reduceCtorEq, decide_true, decide_false, ne_eq, not_true_eq_false, not_false_eq_true, List.length_cons, List.length_nil, List.getElem?_nil, List.set_nil, reduceIte, Bool.false_eq_true, Int.reduceNeg, Int.reduceLT, Int.reduceLE, Int.reducePow, Nat.reducePow, Nat.reduceLT, Nat.reduceLeDiff, Nat.reduceAdd, Int.reduceToNat, and_self, Nat.zero_le, Bool.not_true, Bool.not_false, Bool.not_eq_true, zero_add_nat, h0, hrs]
  · by_cases h1 : st = 1
    · refine ⟨x % 2, some (.int x, false), ?_⟩
      rw [← iL_app]
      simp only [sIf, sSet, sRet, sNil, sNo, sApp, sAug, sAsg, sExpr, sFrz, sPar, sRev, sRetN, frz1, mOp, mVar, mC, mB, mNot, mAnd, mOr, mNeg, mIf, bNot, bAnd, bOr, bYes, mTup, mLst, aNil, aCons, nb, mFn, fLen, fList, fTuple, fMax2, fMin2, mIsT, isT_int_int, isT_int_bl, isT_bool_int, isT_bool_bl, isT_tuple_tup, isT_list_lst, mIsNet, mWires, mComps, mChain, fAdd_int, fSub_int, fMul_r, fMul_l, fDiv_c, fMod_c, fPow_c, fLt_int, fLe_int, fGt_int, fGe_int, fEq_int, fNe_int, fEq_bl, fNe_bl, fAdd_tup, fAdd_lst, fIx_lst, fIx_tup, fIx_frz, mSl, pNone, pSome, fIsN, fIsB, gN, gT, gsN, gTs, gsNil, gsCons, gIx, mCall, mMeth, isNetD, postC, imm, imms, List.getElem?_cons_zero, List.getElem?_cons_succ, List.set_cons_zero, List.set_cons_succ, Option.bind_some, Option.bind_none, Option.map_some, Option.map_none, Option.or_some, Option.or_none, Option.none_or, List.map_cons, List.map_nil, List.all_cons, List.all_nil, Bool.and_true, Bool.true_and, Bool.and_false, Bool.false_and, if_true, if_false, reduceCtorEq, decide_true, decide_false, ne_eq, not_true_eq_false, not_false_eq_true, List.length_cons, List.length_nil, List.getElem?_nil, List.set_nil, reduceIte, Bool.false_eq_true, Int.reduceNeg, Int.reduceLT, Int.reduceLE, Int.reducePow, Nat.reducePow, Nat.reduceLT, Nat.reduceLeDiff, Nat.reduceAdd, Int.reduceToNat, and_self, Nat.zero_le, Bool.not_true, Bool.not_false, Bool.not_eq_true, zero_add_nat, h1, hrs, Int.reduceEq]
    · by_cases h2 : st = 2
      · refine ⟨(x - 500000) * 1000000000000000000000000 + x % 3, some (.int x, false), ?_⟩
        rw [← iL_app]
        simp only [sIf, sSet, sRet, sNil, sNo, sApp, sAug, sAsg, sExpr, sFrz, sPar, sRev, sRetN, frz1, mOp, mVar, mC, mB, mNot, mAnd, mOr, mNeg, mIf, bNot, bAnd, bOr, bYes, mTup, mLst, aNil, aCons, nb, mFn, fLen, fList, fTuple, fMax2, fMin2, mIsT, isT_int_int, isT_int_bl, isT_bool_int, isT_bool_bl, isT_tuple_tup, isT_list_lst, mIsNet, mWires, mComps, mChain, fAdd_int, fSub_int, fMul_r, fMul_l, fDiv_c, fMod_c, fPow_c, fLt_int, fLe_int, fGt_int, fGe_int, fEq_int, fNe_int, fEq_bl, fNe_bl, fAdd_tup, fAdd_lst, fIx_lst, fIx_tup, fIx_frz, mSl, pNone, pSome, fIsN, fIsB, gN, gT, gsN, gTs, gsNil, gsCons, gIx, mCall, mMeth, isNetD, postC, imm, imms, List.getElem?_cons_zero, List.getElem?_cons_succ, List.set_cons_zero, List.set_cons_succ, Option.bind_some, Option.bind_none, Option.map_some, Option.map_none, Option.or_some, Option.or_none, Option.none_or, List.map_cons, List.map_nil, List.all_cons, List.all_nil, Bool.and_true, Bool.true_and, Bool.and_false, Bool.false_and, if_true, if_false, reduceCtorEq, decide_true, decide_false, ne_eq, not_true_eq_false, not_false_eq_true, List.length_cons, List.length_nil, List.getElem?_nil, List.set_nil, reduceIte, Bool.false_eq_true, Int.reduceNeg, Int.reduceLT, Int.reduceLE, Int.reducePow, Nat.reducePow, Nat.reduceLT, Nat.reduceLeDiff, Nat.reduceAdd, Int.reduceToNat, and_self, Nat.zero_le, Bool.not_true, Bool.not_false, Bool.not_eq_true, zero_add_nat, h2, hrs, hpw, hm1, Int.reduceEq]
      · refine ⟨x % (2 * w) - w, some (.int x, false), ?_⟩
        rw [← iL_app]
        simp only [sIf, sSet, sRet, sNil, sNo, sApp, sAug, sAsg, sExpr, sFrz, sPar, sRev, sRetN, frz1, mOp, mVar, mC, mB, mNot, mAnd, mOr, mNeg, mIf, bNot, bAnd, bOr, bYes, mTup, mLst, aNil, aCons, nb, mFn, fLen, fList, fTuple, fMax2, fMin2, mIsT, isT_int_int, isT_int_bl, isT_bool_int, isT_bool_bl, isT_tuple_tup, isT_list_lst, mIsNet, mWires, mComps, mChain, fAdd_int, fSub_int, fMul_r, fMul_l, fDiv_c, fMod_c, fPow_c, fLt_int, fLe_int, fGt_int, fGe_int, fEq_int, fNe_int, fEq_bl, fNe_bl, fAdd_tup, fAdd_lst, fIx_lst, fIx_tup, fIx_frz, mSl, pNone, pSome, fIsN, fIsB, gN, gT, gsN, gTs, gsNil, gsCons, gIx, mCall, mMeth, isNetD, postC, imm, imms, List.getElem?_cons_zero, List.getElem?_cons_succ, List.set_cons_zero, List.set_cons_succ, Option.bind_some, Option.bind_none, Option.map_some, Option.map_none, Option.or_some, Option.or_none, Option.none_or, List.map_cons, List.map_nil, List.all_cons, List.all_nil, Bool.and_true, Bool.true_and, Bool.and_false, Bool.false_and, if_true, if_false, reduceCtorEq, decide_true, decide_false, ne_eq, not_true_eq_false, not_false_eq_true, List.length_cons, List.length_nil, List.getElem?_nil, List.set_nil, reduceIte, Bool.false_eq_true, Int.reduceNeg, Int.reduceLT, Int.reduceLE, Int.reducePow, Nat.reducePow, Nat.reduceLT, Nat.reduceLeDiff, Nat.reduceAdd, Int.reduceToNat, and_self, Nat.zero_le, Bool.not_true, Bool.not_false, Bool.not_eq_true, zero_add_nat, h0, h1, h2, hrs, w2]
theorem row_ok {xs : List Int} {place w : Int} (hx : ∀ x ∈ xs, 0 ≤ x ∧ x < 1000000) (hp : 0 ≤ place) (hl : place + w < xs.length) (hw : 1 ≤ w) (hw2 : w ≤ 12) :
    ∃ rs : List Int, (rs.length : Int) = w ∧ f__law_row [.lst (iL xs), .int place, .int w] = some (.tup (iL rs), false) := by
  obtain ⟨x, e1, hm, _⟩ := at_nn (xs := xs) (i := place) hp (by omega)
  unfold f__law_row runF b__law_row
  simp only [List.map_cons, List.map_nil, List.length_cons, List.length_nil, Nat.reduceAdd, Nat.reduceSub, List.replicate, List.cons_append, List.nil_append]
  have hl0 : 0 ≤ lim := Nat.zero_le _
  rw [seq_nx (by simp only [sIf, sSet, sRet, sNil, sNo, sApp, sAug, sAsg, sExpr, sFrz, sPar, sRev, sRetN, frz1, mOp, mVar, mC, mB, mNot, mAnd, mOr, mNeg, mIf, bNot, bAnd, bOr, bYes, mTup, mLst, aNil, aCons, nb, mFn, fLen, fList, fTuple, fMax2, fMin2, mIsT, isT_int_int, isT_int_bl, isT_bool_int, isT_bool_bl, isT_tuple_tup, isT_list_lst, mIsNet, mWires, mComps, mChain, fAdd_int, fSub_int, fMul_r, fMul_l, fDiv_c, fMod_c, fPow_c, fLt_int, fLe_int, fGt_int, fGe_int, fEq_int, fNe_int, fEq_bl, fNe_bl, fAdd_tup, fAdd_lst, fIx_lst, fIx_tup, fIx_frz, mSl, pNone, pSome, fIsN, fIsB, gN, gT, gsN, gTs, gsNil, gsCons, gIx, mCall, mMeth, isNetD, postC, imm, imms, List.getElem?_cons_zero, List.getElem?_cons_succ, List.set_cons_zero, List.set_cons_succ, Option.bind_some, Option.bind_none, Option.map_some, Option.map_none, Option.or_some, Option.or_none, Option.none_or, List.map_cons, List.map_nil, List.all_cons, List.all_nil, Bool.and_true, Bool.true_and, Bool.and_false, Bool.false_and, if_true, if_false, reduceCtorEq, decide_true, decide_false, ne_eq, not_true_eq_false, not_false_eq_true, List.length_cons, List.length_nil, List.getElem?_nil, List.set_nil, reduceIte, Bool.false_eq_true, Int.reduceNeg, Int.reduceLT, Int.reduceLE, Int.reducePow, Nat.reducePow, Nat.reduceLT, Nat.reduceLeDiff, Nat.reduceAdd, Int.reduceToNat, and_self, Nat.zero_le, Bool.not_true, Bool.not_false, Bool.not_eq_true, zero_add_nat, e1]; rfl), seq_nx (by simp only [sIf, sSet, sRet, sNil, sNo, sApp, sAug, sAsg, sExpr, sFrz, sPar, sRev, sRetN, frz1, mOp, mVar, mC, mB, mNot, mAnd, mOr, mNeg, mIf, bNot, bAnd, bOr, bYes, mTup, mLst, aNil, aCons, nb, mFn, fLen, fList, fTuple, fMax2, fMin2, mIsT, isT_int_int, isT_int_bl, isT_bool_int, isT_bool_bl, isT_tuple_tup, isT_list_lst, mIsNet, mWires, mComps, mChain, fAdd_int, fSub_int, fMul_r, fMul_l, fDiv_c, fMod_c, fPow_c, fLt_int, fLe_int, fGt_int, fGe_int, fEq_int, fNe_int, fEq_bl, fNe_bl, fAdd_tup, fAdd_lst, fIx_lst, fIx_tup, fIx_frz, mSl, pNone, pSome, fIsN, fIsB, gN, gT, gsN, gTs, gsNil, gsCons, gIx, mCall, mMeth, isNetD, postC, imm, imms, List.getElem?_cons_zero, List.getElem?_cons_succ, List.set_cons_zero, List.set_cons_succ, Option.bind_some, Option.bind_none, Option.map_some, Option.map_none, Option.or_some, Option.or_none, Option.none_or, List.map_cons, List.map_nil, List.all_cons, List.all_nil, Bool.and_true, Bool.true_and, Bool.and_false, Bool.false_and, if_true, if_false, reduceCtorEq, decide_true, decide_false, ne_eq, not_true_eq_false, not_false_eq_true, List.length_cons, List.length_nil, List.getElem?_nil, List.set_nil, reduceIte, Bool.false_eq_true, Int.reduceNeg, Int.reduceLT, Int.reduceLE, Int.reducePow, Nat.reducePow, Nat.reduceLT, Nat.reduceLeDiff, Nat.reduceAdd, Int.reduceToNat, and_self, Nat.zero_le, Bool.not_true, Bool.not_false, Bool.not_eq_true, zero_add_nat, hl0]; rfl)]
  have cn : (w.toNat : Int) = w := Int.toNat_of_nonneg (by omega)
  have loop := forGo0 (g := gN 5) (m := rbody)
      (fun j ρ => ∃ (rs : List Int) (o a : Option (D × Bool)), rs.length = j ∧ ρ = [some (.lst (iL xs), false), some (.int place, false), some (.int w, false), some (.int (x % 4), false), some (.lst (iL rs), true), o, a])
      (ds := rngD 0 w.toNat) (ρ := [some (.lst (iL xs), false), some (.int place, false), some (.int w, false), some (.int (x % 4), false), some (.lst [], true), none, none]) ⟨[], none, none, rfl, rfl⟩ ?_
  · obtain ⟨ρ', h1, rs, o, a, hlen, rfl⟩ := loop
    rw [rng_len] at hlen
    refine ⟨rs, by omega, ?_⟩
    unfold rbody at h1
    have hr : iR1 (aCons (mVar 2) aNil) [some (.lst (iL xs), false), some (.int place, false), some (.int w, false), some (.int (x % 4), false), some (.lst [], true), none, none] = some (rngD 0 w.toNat) :=
      iR1_ok (a := .pure) (by simp only [sIf, sSet, sRet, sNil, sNo, sApp, sAug, sAsg, sExpr, sFrz, sPar, sRev, sRetN, frz1, mOp, mVar, mC, mB, mNot, mAnd, mOr, mNeg, mIf, bNot, bAnd, bOr, bYes, mTup, mLst, aNil, aCons, nb, mFn, fLen, fList, fTuple, fMax2, fMin2, mIsT, isT_int_int, isT_int_bl, isT_bool_int, isT_bool_bl, isT_tuple_tup, isT_list_lst, mIsNet, mWires, mComps, mChain, fAdd_int, fSub_int, fMul_r, fMul_l, fDiv_c, fMod_c, fPow_c, fLt_int, fLe_int, fGt_int, fGe_int, fEq_int, fNe_int, fEq_bl, fNe_bl, fAdd_tup, fAdd_lst, fIx_lst, fIx_tup, fIx_frz, mSl, pNone, pSome, fIsN, fIsB, gN, gT, gsN, gTs, gsNil, gsCons, gIx, mCall, mMeth, isNetD, postC, imm, imms, List.getElem?_cons_zero, List.getElem?_cons_succ, List.set_cons_zero, List.set_cons_succ, Option.bind_some, Option.bind_none, Option.map_some, Option.map_none, Option.or_some, Option.or_none, Option.none_or, List.map_cons, List.map_nil, List.all_cons, List.all_nil, Bool.and_true, Bool.true_and, Bool.and_false, Bool.false_and, if_true, if_false, reduceCtorEq, decide_true, decide_false, ne_eq, not_true_eq_false, not_false_eq_true, List.length_cons, List.length_nil, List.getElem?_nil, List.set_nil, reduceIte, Bool.false_eq_true, Int.reduceNeg, Int.reduceLT, Int.reduceLE, Int.reducePow, Nat.reducePow, Nat.reduceLT, Nat.reduceLeDiff, Nat.reduceAdd, Int.reduceToNat, and_self, Nat.zero_le, Bool.not_true, Bool.not_false, Bool.not_eq_true, zero_add_nat, cn]) (by omega)
    rw [seq_nx ((for_ok hr).trans h1)]
    simp only [sIf, sSet, sRet, sNil, sNo, sApp, sAug, sAsg, sExpr, sFrz, sPar, sRev, sRetN, frz1, mOp, mVar, mC, mB, mNot, mAnd, mOr, mNeg, mIf, bNot, bAnd, bOr, bYes, mTup, mLst, aNil, aCons, nb, mFn, fLen, fList, fTuple, fMax2, fMin2, mIsT, isT_int_int, isT_int_bl, isT_bool_int, isT_bool_bl, isT_tuple_tup, isT_list_lst, mIsNet, mWires, mComps, mChain, fAdd_int, fSub_int, fMul_r, fMul_l, fDiv_c, fMod_c, fPow_c, fLt_int, fLe_int, fGt_int, fGe_int, fEq_int, fNe_int, fEq_bl, fNe_bl, fAdd_tup, fAdd_lst, fIx_lst, fIx_tup, fIx_frz, mSl, pNone, pSome, fIsN, fIsB, gN, gT, gsN, gTs, gsNil, gsCons, gIx, mCall, mMeth, isNetD, postC, imm, imms, List.getElem?_cons_zero, List.getElem?_cons_succ, List.set_cons_zero, List.set_cons_succ, Option.bind_some, Option.bind_none, Option.map_some, Option.map_none, Option.or_some, Option.or_none, Option.none_or, List.map_cons, List.map_nil, List.all_cons, List.all_nil, Bool.and_true, Bool.true_and, Bool.and_false, Bool.false_and, if_true, if_false, reduceCtorEq, decide_true, decide_false, ne_eq, not_true_eq_false, not_false_eq_true, List.length_cons, List.length_nil, List.getElem?_nil, List.set_nil, reduceIte, Bool.false_eq_true, Int.reduceNeg, Int.reduceLT, Int.reduceLE, Int.reducePow, Nat.reducePow, Nat.reduceLT, Nat.reduceLeDiff, Nat.reduceAdd, Int.reduceToNat, and_self, Nat.zero_le, Bool.not_true, Bool.not_false, Bool.not_eq_true, zero_add_nat]
  · rintro j d ρ hd ⟨rs, o, a, hlen, rfl⟩
    obtain ⟨hj, rfl⟩ := rng_get hd
    have hrs : (iL rs).length < lim := by rw [List.length_map]; unfold lim; omega
    obtain ⟨r, a', hb'⟩ := rbody_ok (xs := xs) (place := place) (w := w) (st := x % 4) (rs := rs) (j := j) (a0 := a) hx hp (by omega) hw hrs
    exact ⟨_, _, rfl, hb', rs ++ [r], _, a', by simp [hlen], rfl⟩
end Lw

set_option maxRecDepth 100000
set_option maxHeartbeats 4000000
namespace Lw
open PySem L2 Dt
theorem ixN_in {n : Nat} {i : Int} (h0 : 0 ≤ i) (h1 : i < n) : ixN n i = some i.toNat := by
  unfold ixN
  rw [if_pos h0, if_pos h1]
theorem fMin2_int {i j : Int} {a b : Fl} : fMin2 [(.int i, a), (.int j, b)] = some (.int (if j < i then j else i), .pure) := rfl
theorem fMax2_int {i j : Int} {a b : Fl} : fMax2 [(.int i, a), (.int j, b)] = some (.int (if j > i then j else i), .pure) := rfl
/-- a comparer -/
def cmp1 (c : List Int) (p : Int × Int) : List Int :=
  let x := c.getD p.1.toNat 0
  let y := c.getD p.2.toNat 0
  (c.set p.2.toNat (if y > x then y else x)).set p.1.toNat (if y < x then y else x)
def runL (ps : List (Int × Int)) (c : List Int) : List Int := ps.foldl cmp1 c
theorem cmp1_len (c : List Int) (p : Int × Int) : (cmp1 c p).length = c.length := by simp [cmp1]
theorem runL_len : ∀ (ps : List (Int × Int)) (c : List Int), (runL ps c).length = c.length
  | [], _ => rfl
  | p :: ps, c => by show (runL ps (cmp1 c p)).length = _; rw [runL_len ps, cmp1_len]
theorem at_in {c : List Int} {i : Int} (h0 : 0 ≤ i) (h : i < c.length) : atI (iL c) i = some (.int (c.getD i.toNat 0)) := by
  have hl : i.toNat < c.length := by omega
  rw [atI_map, atI_get' h0 hl, List.getD_eq_getElem?_getD, List.getElem?_eq_getElem hl]; rfl
theorem iL_set {c : List Int} {n : Nat} {x : Int} : (iL c).set n (.int x) = iL (c.set n x) := by simp [List.map_set]
def lbody : S := (sSeq (sSet 4 (mFn fMin2 (aCons (mOp fIx (mVar 2) (mOp fIx (mVar 3) (mC (.int 0)))) (aCons (mOp fIx (mVar 2) (mOp fIx (mVar 3) (mC (.int 1)))) aNil)))) (sSeq (sAsg (mFn fMax2 (aCons (mOp fIx (mVar 2) (mOp fIx (mVar 3) (mC (.int 0)))) (aCons (mOp fIx (mVar 2) (mOp fIx (mVar 3) (mC (.int 1)))) aNil))) (gIx 2 (mOp fIx (mVar 3) (mC (.int 1))))) (sAsg (mVar 4) (gIx 2 (mOp fIx (mVar 3) (mC (.int 0)))))))
theorem at2 {i j : Int} : atI [D.int i, D.int j] 0 = some (.int i) := atI_nat (j := 0) rfl
theorem at2' {i j : Int} : atI [D.int i, D.int j] 1 = some (.int j) := atI_nat (j := 1) rfl
theorem lbody_ok {P R : Option (D × Bool)} {c : List Int} {p : Int × Int} {b : Option (D × Bool)} (h : 0 ≤ p.1 ∧ p.1 < c.length ∧ 0 ≤ p.2 ∧ p.2 < c.length ∧ p.1 ≠ p.2) :
    ∃ b', lbody [P, R, some (.lst (iL c), true), some (.tup [.int p.1, .int p.2], false), b] = some (.nx [P, R, some (.lst (iL (cmp1 c p)), true), some (.tup [.int p.1, .int p.2], false), b']) := by
  obtain ⟨h1, h2, h3, h4, h5⟩ := h
  have e1 := at_in h1 h2
  have e2 := at_in h3 h4
  have i1 : ixN (iL c).length p.2 = some p.2.toNat := ixN_in h3 (by rw [iL_len]; exact h4)
  have i2 : ∀ x : Int, ixN (iL (c.set p.2.toNat x)).length p.1 = some p.1.toNat := fun x => ixN_in h1 (by rw [iL_len, List.length_set]; exact h2)
  refine ⟨some (.int (if c.getD p.2.toNat 0 < c.getD p.1.toNat 0 then c.getD p.2.toNat 0 else c.getD p.1.toNat 0), false), ?_⟩
  unfold lbody
  rw [seq_nx (by simp only [sSet, mFn, aCons, mOp, mVar, List.getElem?_cons_succ, List.getElem?_cons_zero, Option.bind_some, fIx_tup, fIx_lst, mC, at2, at2', Option.map_some, if_true, Bool.false_eq_true, if_false, e1, e2, aNil, fMin2_int, List.set_cons_succ, List.set_cons_zero]; rfl)]
  rw [seq_nx (by simp only [sAsg, gIx, mFn, aCons, mOp, mVar, List.getElem?_cons_succ, List.getElem?_cons_zero, Option.bind_some, fIx_tup, fIx_lst, mC, at2, at2', Option.map_some, if_true, Bool.false_eq_true, if_false, e1, e2, aNil, fMax2_int, List.set_cons_succ, List.set_cons_zero, i1]; rfl)]
  simp only [sAsg, gIx, mFn, aCons, mOp, mVar, List.getElem?_cons_succ, List.getElem?_cons_zero, Option.bind_some, fIx_tup, fIx_lst, mC, at2, at2', Option.map_some, if_true, Bool.false_eq_true, if_false, aNil, List.set_cons_succ, List.set_cons_zero, i2, iL_set]
  rfl
theorem lrun_loop {P R : Option (D × Bool)} : ∀ (ps : List (Int × Int)) (c : List Int) (a b : Option (D × Bool)), okP c.length ps →
    ∃ a' b', forGo (gN 3) lbody (prs ps) [P, R, some (.lst (iL c), true), a, b] = some (.nx [P, R, some (.lst (iL (runL ps c)), true), a', b'])
  | [], c, a, b, _ => ⟨a, b, rfl⟩
  | p :: ps, c, a, b, h => by
    obtain ⟨b1, e⟩ := lbody_ok (P := P) (R := R) (c := c) (p := p) (b := b) (h p List.mem_cons_self)
    obtain ⟨a', b', e'⟩ := lrun_loop (P := P) (R := R) ps (cmp1 c p) (some (.tup [.int p.1, .int p.2], false)) b1 (by rw [cmp1_len]; exact fun q hq => h q (List.mem_cons_of_mem _ hq))
    refine ⟨a', b', ?_⟩
    show forGo (gN 3) lbody (.tup [.int p.1, .int p.2] :: prs ps) _ = _
    unfold forGo
    simp only [gN, Option.bind_some, List.set_cons_succ, List.set_cons_zero, e]
    exact e'
theorem lrun_ok {ps : List (Int × Int)} {c : List Int} (h : okP c.length ps) : f__law_run [.lst (prs ps), .tup (iL c)] = some (.tup (iL (runL ps c)), false) := by
  obtain ⟨a, b, e⟩ := lrun_loop (P := some (.lst (prs ps), false)) (R := some (.tup (iL c), false)) ps c none none h
  unfold f__law_run runF b__law_run
  simp only [List.map_cons, List.map_nil, List.length_cons, List.length_nil, Nat.reduceAdd, Nat.reduceSub, List.replicate, List.cons_append, List.nil_append]
  rw [seq_nx (by simp only [sIf, sSet, sRet, sNil, sNo, sApp, sAug, sAsg, sExpr, sFrz, sPar, sRev, sRetN, frz1, mOp, mVar, mC, mB, mNot, mAnd, mOr, mNeg, mIf, bNot, bAnd, bOr, bYes, mTup, mLst, aNil, aCons, nb, mFn, fLen, fList, fTuple, fMax2, fMin2, mIsT, isT_int_int, isT_int_bl, isT_bool_int, isT_bool_bl, isT_tuple_tup, isT_list_lst, mIsNet, mWires, mComps, mChain, fAdd_int, fSub_int, fMul_r, fMul_l, fDiv_c, fMod_c, fPow_c, fLt_int, fLe_int, fGt_int, fGe_int, fEq_int, fNe_int, fEq_bl, fNe_bl, fAdd_tup, fAdd_lst, fIx_lst, fIx_tup, fIx_frz, mSl, pNone, pSome, fIsN, fIsB, gN, gT, gsN, gTs, gsNil, gsCons, gIx, mCall, mMeth, isNetD, postC, imm, imms, List.getElem?_cons_zero, List.getElem?_cons_succ, List.set_cons_zero, List.set_cons_succ, Option.bind_some, Option.bind_none, Option.map_some, Option.map_none, Option.or_some, Option.or_none, Option.none_or, List.map_cons, List.map_nil, List.all_cons, List.all_nil, Bool.and_true, Bool.true_and, Bool.and_false, Bool.false_and, if_true, if_false, reduceCtorEq, decide_true, decide_false, ne_eq, not_true_eq_false, not_false_eq_true, List.length_cons, List.length_nil, List.getElem?_nil, List.set_nil, reduceIte, Bool.false_eq_true, Int.reduceNeg, Int.reduceLT, Int.reduceLE, Int.reducePow, Nat.reducePow, Nat.reduceLT, Nat.reduceLeDiff, Nat.reduceAdd, Int.reduceToNat, and_self, Nat.zero_le, Bool.not_true, Bool.not_false, Bool.not_eq_true, zero_add_nat]; rfl)]
  unfold lbody at e
  have hi : iS false (mVar 0) [some (.lst (prs ps), false), some (.tup (iL c), false), some (.lst (iL c), true), none, none] = some (prs ps) := by simp only [iS, sIf, sSet, sRet, sNil, sNo, sApp, sAug, sAsg, sExpr, sFrz, sPar, sRev, sRetN, frz1, mOp, mVar, mC, mB, mNot, mAnd, mOr, mNeg, mIf, bNot, bAnd, bOr, bYes, mTup, mLst, aNil, aCons, nb, mFn, fLen, fList, fTuple, fMax2, fMin2, mIsT, isT_int_int, isT_int_bl, isT_bool_int, isT_bool_bl, isT_tuple_tup, isT_list_lst, mIsNet, mWires, mComps, mChain, fAdd_int, fSub_int, fMul_r, fMul_l, fDiv_c, fMod_c, fPow_c, fLt_int, fLe_int, fGt_int, fGe_int, fEq_int, fNe_int, fEq_bl, fNe_bl, fAdd_tup, fAdd_lst, fIx_lst, fIx_tup, fIx_frz, mSl, pNone, pSome, fIsN, fIsB, gN, gT, gsN, gTs, gsNil, gsCons, gIx, mCall, mMeth, isNetD, postC, imm, imms, List.getElem?_cons_zero, List.getElem?_cons_succ, List.set_cons_zero, List.set_cons_succ, Option.bind_some, Option.bind_none, Option.map_some, Option.map_none, Option.or_some, Option.or_none, Option.none_or, List.map_cons, List.map_nil, List.all_cons, List.all_nil, Bool.and_true, Bool.true_and, Bool.and_false, Bool.false_and, if_true, if_false, reduceCtorEq, decide_true, decide_false, ne_eq, not_true_eq_false, not_false_eq_true, List.length_cons, List.length_nil, List.getElem?_nil, List.set_nil, reduceIte, Bool.false_eq_true, Int.reduceNeg, Int.reduceLT, Int.reduceLE, Int.reducePow, Nat.reducePow, Nat.reduceLT, Nat.reduceLeDiff, Nat.reduceAdd, Int.reduceToNat, and_self, Nat.zero_le, Bool.not_true, Bool.not_false, Bool.not_eq_true, zero_add_nat, Bool.or_self, Bool.false_or]
  rw [seq_nx (by simp only [sFrz, frz1, List.getElem?_cons_zero]; exact (for_ok hi).trans e)]
  simp only [sIf, sSet, sRet, sNil, sNo, sApp, sAug, sAsg, sExpr, sFrz, sPar, sRev, sRetN, frz1, mOp, mVar, mC, mB, mNot, mAnd, mOr, mNeg, mIf, bNot, bAnd, bOr, bYes, mTup, mLst, aNil, aCons, nb, mFn, fLen, fList, fTuple, fMax2, fMin2, mIsT, isT_int_int, isT_int_bl, isT_bool_int, isT_bool_bl, isT_tuple_tup, isT_list_lst, mIsNet, mWires, mComps, mChain, fAdd_int, fSub_int, fMul_r, fMul_l, fDiv_c, fMod_c, fPow_c, fLt_int, fLe_int, fGt_int, fGe_int, fEq_int, fNe_int, fEq_bl, fNe_bl, fAdd_tup, fAdd_lst, fIx_lst, fIx_tup, fIx_frz, mSl, pNone, pSome, fIsN, fIsB, gN, gT, gsN, gTs, gsNil, gsCons, gIx, mCall, mMeth, isNetD, postC, imm, imms, List.getElem?_cons_zero, List.getElem?_cons_succ, List.set_cons_zero, List.set_cons_succ, Option.bind_some, Option.bind_none, Option.map_some, Option.map_none, Option.or_some, Option.or_none, Option.none_or, List.map_cons, List.map_nil, List.all_cons, List.all_nil, Bool.and_true, Bool.true_and, Bool.and_false, Bool.false_and, if_true, if_false, reduceCtorEq, decide_true, decide_false, ne_eq, not_true_eq_false, not_false_eq_true, List.length_cons, List.length_nil, List.getElem?_nil, List.set_nil, reduceIte, Bool.false_eq_true, Int.reduceNeg, Int.reduceLT, Int.reduceLE, Int.reducePow, Nat.reducePow, Nat.reduceLT, Nat.reduceLeDiff, Nat.reduceAdd, Int.reduceToNat, and_self, Nat.zero_le, Bool.not_true, Bool.not_false, Bool.not_eq_true, zero_add_nat]
/-! Network.run -/
def nrbody : S := (sIf (mB (mOp fLt (mOp fIx (mVar 2) (mVar 4)) (mOp fIx (mVar 2) (mVar 3)))) (sAsg (mTup (aCons (mOp fIx (mVar 2) (mVar 4)) (aCons (mOp fIx (mVar 2) (mVar 3)) aNil))) (gTs 2 (gsCons (gIx 2 (mVar 3)) (gsCons (gIx 2 (mVar 4)) gsNil)))) sNil)
theorem cmp1_eq {c : List Int} {p : Int × Int} (h : 0 ≤ p.1 ∧ p.1 < c.length ∧ 0 ≤ p.2 ∧ p.2 < c.length ∧ p.1 ≠ p.2) :
    cmp1 c p = if c.getD p.2.toNat 0 < c.getD p.1.toNat 0 then (c.set p.1.toNat (c.getD p.2.toNat 0)).set p.2.toNat (c.getD p.1.toNat 0) else c := by
  obtain ⟨h1, h2, h3, h4, h5⟩ := h
  have l1 : p.1.toNat < c.length := by omega
  have l2 : p.2.toNat < c.length := by omega
  have ne : p.1.toNat ≠ p.2.toNat := by omega
  have g1 : c.getD p.1.toNat 0 = c[p.1.toNat] := by rw [List.getD_eq_getElem?_getD, List.getElem?_eq_getElem l1]; rfl
  have g2 : c.getD p.2.toNat 0 = c[p.2.toNat] := by rw [List.getD_eq_getElem?_getD, List.getElem?_eq_getElem l2]; rfl
  unfold cmp1
  simp only [g1, g2]
  by_cases hlt : c[p.2.toNat] < c[p.1.toNat]
  · rw [if_pos hlt, if_pos hlt, if_neg (by omega), List.set_comm _ _ (Ne.symm ne)]
  · rw [if_neg hlt, if_neg hlt]
    have e : (if c[p.2.toNat] > c[p.1.toNat] then c[p.2.toNat] else c[p.1.toNat]) = c[p.2.toNat] := by split <;> omega
    rw [e, List.set_getElem_self, List.set_getElem_self]
theorem nrbody_ok {P R : Option (D × Bool)} {c : List Int} {p : Int × Int} (h : 0 ≤ p.1 ∧ p.1 < c.length ∧ 0 ≤ p.2 ∧ p.2 < c.length ∧ p.1 ≠ p.2) :
    nrbody [P, R, some (.lst (iL c), true), some (.int p.1, false), some (.int p.2, false)] = some (.nx [P, R, some (.lst (iL (cmp1 c p)), true), some (.int p.1, false), some (.int p.2, false)]) := by
  rw [cmp1_eq h]
  obtain ⟨h1, h2, h3, h4, h5⟩ := h
  have e1 := at_in h1 h2
  have e2 := at_in h3 h4
  have i1 : ixN (iL c).length p.1 = some p.1.toNat := ixN_in h1 (by rw [iL_len]; exact h2)
  have i2 : ∀ x : Int, ixN (iL (c.set p.1.toNat x)).length p.2 = some p.2.toNat := fun x => ixN_in h3 (by rw [iL_len, List.length_set]; exact h4)
  have l2 := lim2
  unfold nrbody
  cases hb : decide (c.getD p.2.toNat 0 < c.getD p.1.toNat 0) with
  | true =>
    have ht := of_decide_eq_true hb
    rw [if_pos ht]
    simp only [sIf, sSet, sRet, sNil, sNo, sApp, sAug, sAsg, sExpr, sFrz, sPar, sRev, sRetN, frz1, mOp, mVar, mC, mB, mNot, mAnd, mOr, mNeg, mIf, bNot, bAnd, bOr, bYes, mTup, mLst, aNil, aCons, nb, mFn, fLen, fList, fTuple, fMax2, fMin2, mIsT, isT_int_int, isT_int_bl, isT_bool_int, isT_bool_bl, isT_tuple_tup, isT_list_lst, mIsNet, mWires, mComps, mChain, fAdd_int, fSub_int, fMul_r, fMul_l, fDiv_c, fMod_c, fPow_c, fLt_int, fLe_int, fGt_int, fGe_int, fEq_int, fNe_int, fEq_bl, fNe_bl, fAdd_tup, fAdd_lst, fIx_lst, fIx_tup, fIx_frz, mSl, pNone, pSome, fIsN, fIsB, gN, gT, gsN, gTs, gsNil, gsCons, gIx, mCall, mMeth, isNetD, postC, imm, imms, List.getElem?_cons_zero, List.getElem?_cons_succ, List.set_cons_zero, List.set_cons_succ, Option.bind_some, Option.bind_none, Option.map_some, Option.map_none, Option.or_some, Option.or_none, Option.none_or, List.map_cons, List.map_nil, List.all_cons, List.all_nil, Bool.and_true, Bool.true_and, Bool.and_false, Bool.false_and, if_true, if_false, reduceCtorEq, decide_true, decide_false, ne_eq, not_true_eq_false, not_false_eq_true, List.length_cons, List.length_nil, List.getElem?_nil, List.set_nil, reduceIte, Bool.false_eq_true, Int.reduceNeg, Int.reduceLT, Int.reduceLE, Int.reducePow, Nat.reducePow, Nat.reduceLT, Nat.reduceLeDiff, Nat.reduceAdd, Int.reduceToNat, and_self, Nat.zero_le, Bool.not_true, Bool.not_false, Bool.not_eq_true, zero_add_nat, e1, e2, hb, l2, i1, i2, iL_set]
  | false =>
    have ht := of_decide_eq_false hb
    rw [if_neg ht]
    simp only [sIf, sSet, sRet, sNil, sNo, sApp, sAug, sAsg, sExpr, sFrz, sPar, sRev, sRetN, frz1, mOp, mVar, mC, mB, mNot, mAnd, mOr, mNeg, mIf, bNot, bAnd, bOr, bYes, mTup, mLst, aNil, aCons, nb, mFn, fLen, fList, fTuple, fMax2, fMin2, mIsT, isT_int_int, isT_int_bl, isT_bool_int, isT_bool_bl, isT_tuple_tup, isT_list_lst, mIsNet, mWires, mComps, mChain, fAdd_int, fSub_int, fMul_r, fMul_l, fDiv_c, fMod_c, fPow_c, fLt_int, fLe_int, fGt_int, fGe_int, fEq_int, fNe_int, fEq_bl, fNe_bl, fAdd_tup, fAdd_lst, fIx_lst, fIx_tup, fIx_frz, mSl, pNone, pSome, fIsN, fIsB, gN, gT, gsN, gTs, gsNil, gsCons, gIx, mCall, mMeth, isNetD, postC, imm, imms, List.getElem?_cons_zero, List.getElem?_cons_succ, List.set_cons_zero, List.set_cons_succ, Option.bind_some, Option.bind_none, Option.map_some, Option.map_none, Option.or_some, Option.or_none, Option.none_or, List.map_cons, List.map_nil, List.all_cons, List.all_nil, Bool.and_true, Bool.true_and, Bool.and_false, Bool.false_and, if_true, if_false, reduceCtorEq, decide_true, decide_false, ne_eq, not_true_eq_false, not_false_eq_true, List.length_cons, List.length_nil, List.getElem?_nil, List.set_nil, reduceIte, Bool.false_eq_true, Int.reduceNeg, Int.reduceLT, Int.reduceLE, Int.reducePow, Nat.reducePow, Nat.reduceLT, Nat.reduceLeDiff, Nat.reduceAdd, Int.reduceToNat, and_self, Nat.zero_le, Bool.not_true, Bool.not_false, Bool.not_eq_true, zero_add_nat, e1, e2, hb]
theorem nrun_loop {P R : Option (D × Bool)} : ∀ (ps : List (Int × Int)) (c : List Int) (a b : Option (D × Bool)), okP c.length ps →
    ∃ a' b', forGo (gTs 2 (gsCons (gN 3) (gsCons (gN 4) gsNil))) nrbody (prs ps) [P, R, some (.lst (iL c), true), a, b] = some (.nx [P, R, some (.lst (iL (runL ps c)), true), a', b'])
  | [], c, a, b, _ => ⟨a, b, rfl⟩
  | p :: ps, c, a, b, h => by
    have e := nrbody_ok (P := P) (R := R) (c := c) (p := p) (h p List.mem_cons_self)
    obtain ⟨a', b', e'⟩ := nrun_loop (P := P) (R := R) ps (cmp1 c p) (some (.int p.1, false)) (some (.int p.2, false)) (by rw [cmp1_len]; exact fun q hq => h q (List.mem_cons_of_mem _ hq))
    refine ⟨a', b', ?_⟩
    show forGo _ nrbody (.tup [.int p.1, .int p.2] :: prs ps) _ = _
    unfold forGo
    simp only [sIf, sSet, sRet, sNil, sNo, sApp, sAug, sAsg, sExpr, sFrz, sPar, sRev, sRetN, frz1, mOp, mVar, mC, mB, mNot, mAnd, mOr, mNeg, mIf, bNot, bAnd, bOr, bYes, mTup, mLst, aNil, aCons, nb, mFn, fLen, fList, fTuple, fMax2, fMin2, mIsT, isT_int_int, isT_int_bl, isT_bool_int, isT_bool_bl, isT_tuple_tup, isT_list_lst, mIsNet, mWires, mComps, mChain, fAdd_int, fSub_int, fMul_r, fMul_l, fDiv_c, fMod_c, fPow_c, fLt_int, fLe_int, fGt_int, fGe_int, fEq_int, fNe_int, fEq_bl, fNe_bl, fAdd_tup, fAdd_lst, fIx_lst, fIx_tup, fIx_frz, mSl, pNone, pSome, fIsN, fIsB, gN, gT, gsN, gTs, gsNil, gsCons, gIx, mCall, mMeth, isNetD, postC, imm, imms, List.getElem?_cons_zero, List.getElem?_cons_succ, List.set_cons_zero, List.set_cons_succ, Option.bind_some, Option.bind_none, Option.map_some, Option.map_none, Option.or_some, Option.or_none, Option.none_or, List.map_cons, List.map_nil, List.all_cons, List.all_nil, Bool.and_true, Bool.true_and, Bool.and_false, Bool.false_and, if_true, if_false, reduceCtorEq, decide_true, decide_false, ne_eq, not_true_eq_false, not_false_eq_true, List.length_cons, List.length_nil, List.getElem?_nil, List.set_nil, reduceIte, Bool.false_eq_true, Int.reduceNeg, Int.reduceLT, Int.reduceLE, Int.reducePow, Nat.reducePow, Nat.reduceLT, Nat.reduceLeDiff, Nat.reduceAdd, Int.reduceToNat, and_self, Nat.zero_le, Bool.not_true, Bool.not_false, Bool.not_eq_true, zero_add_nat, e]
    exact e'
theorem nrun_ok {ps : List (Int × Int)} {c : List Int} {w : Int} (h : okP c.length ps) : f_Network_run [.net w (.tup (prs ps)), .tup (iL c)] = some (.tup (iL (runL ps c)), false) := by
  obtain ⟨a, b, e⟩ := nrun_loop (P := some (.net w (.tup (prs ps)), false)) (R := some (.tup (iL c), false)) ps c none none h
  unfold f_Network_run runF b_Network_run
  simp only [List.map_cons, List.map_nil, List.length_cons, List.length_nil, Nat.reduceAdd, Nat.reduceSub, List.replicate, List.cons_append, List.nil_append]
  rw [seq_nx (by simp only [sIf, sSet, sRet, sNil, sNo, sApp, sAug, sAsg, sExpr, sFrz, sPar, sRev, sRetN, frz1, mOp, mVar, mC, mB, mNot, mAnd, mOr, mNeg, mIf, bNot, bAnd, bOr, bYes, mTup, mLst, aNil, aCons, nb, mFn, fLen, fList, fTuple, fMax2, fMin2, mIsT, isT_int_int, isT_int_bl, isT_bool_int, isT_bool_bl, isT_tuple_tup, isT_list_lst, mIsNet, mWires, mComps, mChain, fAdd_int, fSub_int, fMul_r, fMul_l, fDiv_c, fMod_c, fPow_c, fLt_int, fLe_int, fGt_int, fGe_int, fEq_int, fNe_int, fEq_bl, fNe_bl, fAdd_tup, fAdd_lst, fIx_lst, fIx_tup, fIx_frz, mSl, pNone, pSome, fIsN, fIsB, gN, gT, gsN, gTs, gsNil, gsCons, gIx, mCall, mMeth, isNetD, postC, imm, imms, List.getElem?_cons_zero, List.getElem?_cons_succ, List.set_cons_zero, List.set_cons_succ, Option.bind_some, Option.bind_none, Option.map_some, Option.map_none, Option.or_some, Option.or_none, Option.none_or, List.map_cons, List.map_nil, List.all_cons, List.all_nil, Bool.and_true, Bool.true_and, Bool.and_false, Bool.false_and, if_true, if_false, reduceCtorEq, decide_true, decide_false, ne_eq, not_true_eq_false, not_false_eq_true, List.length_cons, List.length_nil, List.getElem?_nil, List.set_nil, reduceIte, Bool.false_eq_true, Int.reduceNeg, Int.reduceLT, Int.reduceLE, Int.reducePow, Nat.reducePow, Nat.reduceLT, Nat.reduceLeDiff, Nat.reduceAdd, Int.reduceToNat, and_self, Nat.zero_le, Bool.not_true, Bool.not_false, Bool.not_eq_true, zero_add_nat]; rfl)]
  unfold nrbody at e
  have hi : iS false (mComps (mVar 0)) [some (.net w (.tup (prs ps)), false), some (.tup (iL c), false), some (.lst (iL c), true), none, none] = some (prs ps) := by simp only [iS, sIf, sSet, sRet, sNil, sNo, sApp, sAug, sAsg, sExpr, sFrz, sPar, sRev, sRetN, frz1, mOp, mVar, mC, mB, mNot, mAnd, mOr, mNeg, mIf, bNot, bAnd, bOr, bYes, mTup, mLst, aNil, aCons, nb, mFn, fLen, fList, fTuple, fMax2, fMin2, mIsT, isT_int_int, isT_int_bl, isT_bool_int, isT_bool_bl, isT_tuple_tup, isT_list_lst, mIsNet, mWires, mComps, mChain, fAdd_int, fSub_int, fMul_r, fMul_l, fDiv_c, fMod_c, fPow_c, fLt_int, fLe_int, fGt_int, fGe_int, fEq_int, fNe_int, fEq_bl, fNe_bl, fAdd_tup, fAdd_lst, fIx_lst, fIx_tup, fIx_frz, mSl, pNone, pSome, fIsN, fIsB, gN, gT, gsN, gTs, gsNil, gsCons, gIx, mCall, mMeth, isNetD, postC, imm, imms, List.getElem?_cons_zero, List.getElem?_cons_succ, List.set_cons_zero, List.set_cons_succ, Option.bind_some, Option.bind_none, Option.map_some, Option.map_none, Option.or_some, Option.or_none, Option.none_or, List.map_cons, List.map_nil, List.all_cons, List.all_nil, Bool.and_true, Bool.true_and, Bool.and_false, Bool.false_and, if_true, if_false, reduceCtorEq, decide_true, decide_false, ne_eq, not_true_eq_false, not_false_eq_true, List.length_cons, List.length_nil, List.getElem?_nil, List.set_nil, reduceIte, Bool.false_eq_true, Int.reduceNeg, Int.reduceLT, Int.reduceLE, Int.reducePow, Nat.reducePow, Nat.reduceLT, Nat.reduceLeDiff, Nat.reduceAdd, Int.reduceToNat, and_self, Nat.zero_le, Bool.not_true, Bool.not_false, Bool.not_eq_true, zero_add_nat]
  rw [seq_nx ((for_ok hi).trans e)]
  simp only [sIf, sSet, sRet, sNil, sNo, sApp, sAug, sAsg, sExpr, sFrz, sPar, sRev, sRetN, frz1, mOp, mVar, mC, mB, mNot, mAnd, mOr, mNeg, mIf, bNot, bAnd, bOr, bYes, mTup, mLst, aNil, aCons, nb, mFn, fLen, fList, fTuple, fMax2, fMin2, mIsT, isT_int_int, isT_int_bl, isT_bool_int, isT_bool_bl, isT_tuple_tup, isT_list_lst, mIsNet, mWires, mComps, mChain, fAdd_int, fSub_int, fMul_r, fMul_l, fDiv_c, fMod_c, fPow_c, fLt_int, fLe_int, fGt_int, fGe_int, fEq_int, fNe_int, fEq_bl, fNe_bl, fAdd_tup, fAdd_lst, fIx_lst, fIx_tup, fIx_frz, mSl, pNone, pSome, fIsN, fIsB, gN, gT, gsN, gTs, gsNil, gsCons, gIx, mCall, mMeth, isNetD, postC, imm, imms, List.getElem?_cons_zero, List.getElem?_cons_succ, List.set_cons_zero, List.set_cons_succ, Option.bind_some, Option.bind_none, Option.map_some, Option.map_none, Option.or_some, Option.or_none, Option.none_or, List.map_cons, List.map_nil, List.all_cons, List.all_nil, Bool.and_true, Bool.true_and, Bool.and_false, Bool.false_and, if_true, if_false, reduceCtorEq, decide_true, decide_false, ne_eq, not_true_eq_false, not_false_eq_true, List.length_cons, List.length_nil, List.getElem?_nil, List.set_nil, reduceIte, Bool.false_eq_true, Int.reduceNeg, Int.reduceLT, Int.reduceLE, Int.reducePow, Nat.reducePow, Nat.reduceLT, Nat.reduceLeDiff, Nat.reduceAdd, Int.reduceToNat, and_self, Nat.zero_le, Bool.not_true, Bool.not_false, Bool.not_eq_true, zero_add_nat]
theorem nrunL_ok {ps : List (Int × Int)} {c : List Int} {w : Int} (h : okP c.length ps) : f_Network_run [.net w (.tup (prs ps)), .lst (iL c)] = some (.tup (iL (runL ps c)), false) := by
  obtain ⟨a, b, e⟩ := nrun_loop (P := some (.net w (.tup (prs ps)), false)) (R := some (.lst (iL c), false)) ps c none none h
  unfold f_Network_run runF b_Network_run
  simp only [List.map_cons, List.map_nil, List.length_cons, List.length_nil, Nat.reduceAdd, Nat.reduceSub, List.replicate, List.cons_append, List.nil_append]
  rw [seq_nx (by simp only [sIf, sSet, sRet, sNil, sNo, sApp, sAug, sAsg, sExpr, sFrz, sPar, sRev, sRetN, frz1, mOp, mVar, mC, mB, mNot, mAnd, mOr, mNeg, mIf, bNot, bAnd, bOr, bYes, mTup, mLst, aNil, aCons, nb, mFn, fLen, fList, fTuple, fMax2, fMin2, mIsT, isT_int_int, isT_int_bl, isT_bool_int, isT_bool_bl, isT_tuple_tup, isT_list_lst, mIsNet, mWires, mComps, mChain, fAdd_int, fSub_int, fMul_r, fMul_l, fDiv_c, fMod_c, fPow_c, fLt_int, fLe_int, fGt_int, fGe_int, fEq_int, fNe_int, fEq_bl, fNe_bl, fAdd_tup, fAdd_lst, fIx_lst, fIx_tup, fIx_frz, mSl, pNone, pSome, fIsN, fIsB, gN, gT, gsN, gTs, gsNil, gsCons, gIx, mCall, mMeth, isNetD, postC, imm, imms, List.getElem?_cons_zero, List.getElem?_cons_succ, List.set_cons_zero, List.set_cons_succ, Option.bind_some, Option.bind_none, Option.map_some, Option.map_none, Option.or_some, Option.or_none, Option.none_or, List.map_cons, List.map_nil, List.all_cons, List.all_nil, Bool.and_true, Bool.true_and, Bool.and_false, Bool.false_and, if_true, if_false, reduceCtorEq, decide_true, decide_false, ne_eq, not_true_eq_false, not_false_eq_true, List.length_cons, List.length_nil, List.getElem?_nil, List.set_nil, reduceIte, Bool.false_eq_true, Int.reduceNeg, Int.reduceLT, Int.reduceLE, Int.reducePow, Nat.reducePow, Nat.reduceLT, Nat.reduceLeDiff, Nat.reduceAdd, Int.reduceToNat, and_self, Nat.zero_le, Bool.not_true, Bool.not_false, Bool.not_eq_true, zero_add_nat]; rfl)]
  unfold nrbody at e
  have hi : iS false (mComps (mVar 0)) [some (.net w (.tup (prs ps)), false), some (.lst (iL c), false), some (.lst (iL c), true), none, none] = some (prs ps) := by simp only [iS, sIf, sSet, sRet, sNil, sNo, sApp, sAug, sAsg, sExpr, sFrz, sPar, sRev, sRetN, frz1, mOp, mVar, mC, mB, mNot, mAnd, mOr, mNeg, mIf, bNot, bAnd, bOr, bYes, mTup, mLst, aNil, aCons, nb, mFn, fLen, fList, fTuple, fMax2, fMin2, mIsT, isT_int_int, isT_int_bl, isT_bool_int, isT_bool_bl, isT_tuple_tup, isT_list_lst, mIsNet, mWires, mComps, mChain, fAdd_int, fSub_int, fMul_r, fMul_l, fDiv_c, fMod_c, fPow_c, fLt_int, fLe_int, fGt_int, fGe_int, fEq_int, fNe_int, fEq_bl, fNe_bl, fAdd_tup, fAdd_lst, fIx_lst, fIx_tup, fIx_frz, mSl, pNone, pSome, fIsN, fIsB, gN, gT, gsN, gTs, gsNil, gsCons, gIx, mCall, mMeth, isNetD, postC, imm, imms, List.getElem?_cons_zero, List.getElem?_cons_succ, List.set_cons_zero, List.set_cons_succ, Option.bind_some, Option.bind_none, Option.map_some, Option.map_none, Option.or_some, Option.or_none, Option.none_or, List.map_cons, List.map_nil, List.all_cons, List.all_nil, Bool.and_true, Bool.true_and, Bool.and_false, Bool.false_and, if_true, if_false, reduceCtorEq, decide_true, decide_false, ne_eq, not_true_eq_false, not_false_eq_true, List.length_cons, List.length_nil, List.getElem?_nil, List.set_nil, reduceIte, Bool.false_eq_true, Int.reduceNeg, Int.reduceLT, Int.reduceLE, Int.reducePow, Nat.reducePow, Nat.reduceLT, Nat.reduceLeDiff, Nat.reduceAdd, Int.reduceToNat, and_self, Nat.zero_le, Bool.not_true, Bool.not_false, Bool.not_eq_true, zero_add_nat]
  rw [seq_nx ((for_ok hi).trans e)]
  simp only [sIf, sSet, sRet, sNil, sNo, sApp, sAug, sAsg, sExpr, sFrz, sPar, sRev, sRetN, frz1, mOp, mVar, mC, mB, mNot, mAnd, mOr, mNeg, mIf, bNot, bAnd, bOr, bYes, mTup, mLst, aNil, aCons, nb, mFn, fLen, fList, fTuple, fMax2, fMin2, mIsT, isT_int_int, isT_int_bl, isT_bool_int, isT_bool_bl, isT_tuple_tup, isT_list_lst, mIsNet, mWires, mComps, mChain, fAdd_int, fSub_int, fMul_r, fMul_l, fDiv_c, fMod_c, fPow_c, fLt_int, fLe_int, fGt_int, fGe_int, fEq_int, fNe_int, fEq_bl, fNe_bl, fAdd_tup, fAdd_lst, fIx_lst, fIx_tup, fIx_frz, mSl, pNone, pSome, fIsN, fIsB, gN, gT, gsN, gTs, gsNil, gsCons, gIx, mCall, mMeth, isNetD, postC, imm, imms, List.getElem?_cons_zero, List.getElem?_cons_succ, List.set_cons_zero, List.set_cons_succ, Option.bind_some, Option.bind_none, Option.map_some, Option.map_none, Option.or_some, Option.or_none, Option.none_or, List.map_cons, List.map_nil, List.all_cons, List.all_nil, Bool.and_true, Bool.true_and, Bool.and_false, Bool.false_and, if_true, if_false, reduceCtorEq, decide_true, decide_false, ne_eq, not_true_eq_false, not_false_eq_true, List.length_cons, List.length_nil, List.getElem?_nil, List.set_nil, reduceIte, Bool.false_eq_true, Int.reduceNeg, Int.reduceLT, Int.reduceLE, Int.reducePow, Nat.reducePow, Nat.reduceLT, Nat.reduceLeDiff, Nat.reduceAdd, Int.reduceToNat, and_self, Nat.zero_le, Bool.not_true, Bool.not_false, Bool.not_eq_true, zero_add_nat]
/-! a row that is what is due -/
theorem isnum_ok {i : Int} : f__law_is_number [.int i] = some (.bl true, false) := by
  unfold f__law_is_number runF b__law_is_number
  simp only [List.map_cons, List.map_nil, List.length_cons, List.length_nil, Nat.reduceAdd, Nat.sub_self, List.replicate, List.append_nil]
  simp only [sIf, sSet, sRet, sNil, sNo, sApp, sAug, sAsg, sExpr, sFrz, sPar, sRev, sRetN, frz1, mOp, mVar, mC, mB, mNot, mAnd, mOr, mNeg, mIf, bNot, bAnd, bOr, bYes, mTup, mLst, aNil, aCons, nb, mFn, fLen, fList, fTuple, fMax2, fMin2, mIsT, isT_int_int, isT_int_bl, isT_bool_int, isT_bool_bl, isT_tuple_tup, isT_list_lst, mIsNet, mWires, mComps, mChain, fAdd_int, fSub_int, fMul_r, fMul_l, fDiv_c, fMod_c, fPow_c, fLt_int, fLe_int, fGt_int, fGe_int, fEq_int, fNe_int, fEq_bl, fNe_bl, fAdd_tup, fAdd_lst, fIx_lst, fIx_tup, fIx_frz, mSl, pNone, pSome, fIsN, fIsB, gN, gT, gsN, gTs, gsNil, gsCons, gIx, mCall, mMeth, isNetD, postC, imm, imms, List.getElem?_cons_zero, List.getElem?_cons_succ, List.set_cons_zero, List.set_cons_succ, Option.bind_some, Option.bind_none, Option.map_some, Option.map_none, Option.or_some, Option.or_none, Option.none_or, List.map_cons, List.map_nil, List.all_cons, List.all_nil, Bool.and_true, Bool.true_and, Bool.and_false, Bool.false_and, if_true, if_false, reduceCtorEq, decide_true, decide_false, ne_eq, not_true_eq_false, not_false_eq_true, List.length_cons, List.length_nil, List.getElem?_nil, List.set_nil, reduceIte, Bool.false_eq_true, Int.reduceNeg, Int.reduceLT, Int.reduceLE, Int.reducePow, Nat.reducePow, Nat.reduceLT, Nat.reduceLeDiff, Nat.reduceAdd, Int.reduceToNat, and_self, Nat.zero_le, Bool.not_true, Bool.not_false, Bool.not_eq_true, zero_add_nat]
theorem isrow_ok {c : List Int} (hc : c.length ≤ 100000) : f__law_is_row [.tup (iL c), .tup (iL c)] = some (.bl true, false) := by
  unfold f__law_is_row runF b__law_is_row
  simp only [List.map_cons, List.map_nil, List.length_cons, List.length_nil, Nat.reduceAdd, Nat.reduceSub, List.replicate, List.cons_append, List.nil_append]
  rw [seq_nx (by simp only [sIf, sSet, sRet, sNil, sNo, sApp, sAug, sAsg, sExpr, sFrz, sPar, sRev, sRetN, frz1, mOp, mVar, mC, mB, mNot, mAnd, mOr, mNeg, mIf, bNot, bAnd, bOr, bYes, mTup, mLst, aNil, aCons, nb, mFn, fLen, fList, fTuple, fMax2, fMin2, mIsT, isT_int_int, isT_int_bl, isT_bool_int, isT_bool_bl, isT_tuple_tup, isT_list_lst, mIsNet, mWires, mComps, mChain, fAdd_int, fSub_int, fMul_r, fMul_l, fDiv_c, fMod_c, fPow_c, fLt_int, fLe_int, fGt_int, fGe_int, fEq_int, fNe_int, fEq_bl, fNe_bl, fAdd_tup, fAdd_lst, fIx_lst, fIx_tup, fIx_frz, mSl, pNone, pSome, fIsN, fIsB, gN, gT, gsN, gTs, gsNil, gsCons, gIx, mCall, mMeth, isNetD, postC, imm, imms, List.getElem?_cons_zero, List.getElem?_cons_succ, List.set_cons_zero, List.set_cons_succ, Option.bind_some, Option.bind_none, Option.map_some, Option.map_none, Option.or_some, Option.or_none, Option.none_or, List.map_cons, List.map_nil, List.all_cons, List.all_nil, Bool.and_true, Bool.true_and, Bool.and_false, Bool.false_and, if_true, if_false, reduceCtorEq, decide_true, decide_false, ne_eq, not_true_eq_false, not_false_eq_true, List.length_cons, List.length_nil, List.getElem?_nil, List.set_nil, reduceIte, Bool.false_eq_true, Int.reduceNeg, Int.reduceLT, Int.reduceLE, Int.reducePow, Nat.reducePow, Nat.reduceLT, Nat.reduceLeDiff, Nat.reduceAdd, Int.reduceToNat, and_self, Nat.zero_le, Bool.not_true, Bool.not_false, Bool.not_eq_true, zero_add_nat]; rfl)]
  have hr : iR1 (aCons (mFn fLen (aCons (mVar 1) aNil)) aNil) [some (.tup (iL c), false), some (.tup (iL c), false), none] = some (rngD 0 c.length) := iR1_ok (a := .pure) (by simp only [sIf, sSet, sRet, sNil, sNo, sApp, sAug, sAsg, sExpr, sFrz, sPar, sRev, sRetN, frz1, mOp, mVar, mC, mB, mNot, mAnd, mOr, mNeg, mIf, bNot, bAnd, bOr, bYes, mTup, mLst, aNil, aCons, nb, mFn, fLen, fList, fTuple, fMax2, fMin2, mIsT, isT_int_int, isT_int_bl, isT_bool_int, isT_bool_bl, isT_tuple_tup, isT_list_lst, mIsNet, mWires, mComps, mChain, fAdd_int, fSub_int, fMul_r, fMul_l, fDiv_c, fMod_c, fPow_c, fLt_int, fLe_int, fGt_int, fGe_int, fEq_int, fNe_int, fEq_bl, fNe_bl, fAdd_tup, fAdd_lst, fIx_lst, fIx_tup, fIx_frz, mSl, pNone, pSome, fIsN, fIsB, gN, gT, gsN, gTs, gsNil, gsCons, gIx, mCall, mMeth, isNetD, postC, imm, imms, List.getElem?_cons_zero, List.getElem?_cons_succ, List.set_cons_zero, List.set_cons_succ, Option.bind_some, Option.bind_none, Option.map_some, Option.map_none, Option.or_some, Option.or_none, Option.none_or, List.map_cons, List.map_nil, List.all_cons, List.all_nil, Bool.and_true, Bool.true_and, Bool.and_false, Bool.false_and, if_true, if_false, reduceCtorEq, decide_true, decide_false, ne_eq, not_true_eq_false, not_false_eq_true, List.length_cons, List.length_nil, List.getElem?_nil, List.set_nil, reduceIte, Bool.false_eq_true, Int.reduceNeg, Int.reduceLT, Int.reduceLE, Int.reducePow, Nat.reducePow, Nat.reduceLT, Nat.reduceLeDiff, Nat.reduceAdd, Int.reduceToNat, and_self, Nat.zero_le, Bool.not_true, Bool.not_false, Bool.not_eq_true, zero_add_nat, iL_len]) hc
  have loop := forGo0 (g := gN 2) (m := (sIf (bOr (bNot (mB (mCall f__law_is_number (aCons (mOp fIx (mVar 0) (mVar 2)) aNil)))) (mB (mOp fNe (mOp fIx (mVar 0) (mVar 2)) (mOp fIx (mVar 1) (mVar 2))))) (sRet (mC (.bl false))) sNil))
    (fun _ ρ => ∃ a, ρ = [some (.tup (iL c), false), some (.tup (iL c), false), a]) (ds := rngD 0 c.length) (ρ := [some (.tup (iL c), false), some (.tup (iL c), false), none]) ⟨none, rfl⟩ ?_
  · obtain ⟨ρ', h1, a, rfl⟩ := loop
    rw [seq_nx ((for_ok hr).trans h1)]
    simp only [sIf, sSet, sRet, sNil, sNo, sApp, sAug, sAsg, sExpr, sFrz, sPar, sRev, sRetN, frz1, mOp, mVar, mC, mB, mNot, mAnd, mOr, mNeg, mIf, bNot, bAnd, bOr, bYes, mTup, mLst, aNil, aCons, nb, mFn, fLen, fList, fTuple, fMax2, fMin2, mIsT, isT_int_int, isT_int_bl, isT_bool_int, isT_bool_bl, isT_tuple_tup, isT_list_lst, mIsNet, mWires, mComps, mChain, fAdd_int, fSub_int, fMul_r, fMul_l, fDiv_c, fMod_c, fPow_c, fLt_int, fLe_int, fGt_int, fGe_int, fEq_int, fNe_int, fEq_bl, fNe_bl, fAdd_tup, fAdd_lst, fIx_lst, fIx_tup, fIx_frz, mSl, pNone, pSome, fIsN, fIsB, gN, gT, gsN, gTs, gsNil, gsCons, gIx, mCall, mMeth, isNetD, postC, imm, imms, List.getElem?_cons_zero, List.getElem?_cons_succ, List.set_cons_zero, List.set_cons_succ, Option.bind_some, Option.bind_none, Option.map_some, Option.map_none, Option.or_some, Option.or_none, Option.none_or, List.map_cons, List.map_nil, List.all_cons, List.all_nil, Bool.and_true, Bool.true_and, Bool.and_false, Bool.false_and, if_true, if_false, reduceCtorEq, decide_true, decide_false, ne_eq, not_true_eq_false, not_false_eq_true, List.length_cons, List.length_nil, List.getElem?_nil, List.set_nil, reduceIte, Bool.false_eq_true, Int.reduceNeg, Int.reduceLT, Int.reduceLE, Int.reducePow, Nat.reducePow, Nat.reduceLT, Nat.reduceLeDiff, Nat.reduceAdd, Int.reduceToNat, and_self, Nat.zero_le, Bool.not_true, Bool.not_false, Bool.not_eq_true, zero_add_nat]
  · rintro j d ρ hd ⟨a, rfl⟩
    obtain ⟨hj, rfl⟩ := rng_get hd
    have e := at_in (c := c) (i := (j : Int)) (by omega) (by omega)
    refine ⟨[some (.tup (iL c), false), some (.tup (iL c), false), some (.int j, false)], [some (.tup (iL c), false), some (.tup (iL c), false), some (.int j, false)], by simp only [sIf, sSet, sRet, sNil, sNo, sApp, sAug, sAsg, sExpr, sFrz, sPar, sRev, sRetN, frz1, mOp, mVar, mC, mB, mNot, mAnd, mOr, mNeg, mIf, bNot, bAnd, bOr, bYes, mTup, mLst, aNil, aCons, nb, mFn, fLen, fList, fTuple, fMax2, fMin2, mIsT, isT_int_int, isT_int_bl, isT_bool_int, isT_bool_bl, isT_tuple_tup, isT_list_lst, mIsNet, mWires, mComps, mChain, fAdd_int, fSub_int, fMul_r, fMul_l, fDiv_c, fMod_c, fPow_c, fLt_int, fLe_int, fGt_int, fGe_int, fEq_int, fNe_int, fEq_bl, fNe_bl, fAdd_tup, fAdd_lst, fIx_lst, fIx_tup, fIx_frz, mSl, pNone, pSome, fIsN, fIsB, gN, gT, gsN, gTs, gsNil, gsCons, gIx, mCall, mMeth, isNetD, postC, imm, imms, List.getElem?_cons_zero, List.getElem?_cons_succ, List.set_cons_zero, List.set_cons_succ, Option.bind_some, Option.bind_none, Option.map_some, Option.map_none, Option.or_some, Option.or_none, Option.none_or, List.map_cons, List.map_nil, List.all_cons, List.all_nil, Bool.and_true, Bool.true_and, Bool.and_false, Bool.false_and, if_true, if_false, reduceCtorEq, decide_true, decide_false, ne_eq, not_true_eq_false, not_false_eq_true, List.length_cons, List.length_nil, List.getElem?_nil, List.set_nil, reduceIte, Bool.false_eq_true, Int.reduceNeg, Int.reduceLT, Int.reduceLE, Int.reducePow, Nat.reducePow, Nat.reduceLT, Nat.reduceLeDiff, Nat.reduceAdd, Int.reduceToNat, and_self, Nat.zero_le, Bool.not_true, Bool.not_false, Bool.not_eq_true, zero_add_nat], ?_, _, rfl⟩
    simp only [sIf, sSet, sRet, sNil, sNo, sApp, sAug, sAsg, sExpr, sFrz, sPar, sRev, sRetN, frz1, mOp, mVar, mC, mB, mNot, mAnd, mOr, mNeg, mIf, bNot, bAnd, bOr, bYes, mTup, mLst, aNil, aCons, nb, mFn, fLen, fList, fTuple, fMax2, fMin2, mIsT, isT_int_int, isT_int_bl, isT_bool_int, isT_bool_bl, isT_tuple_tup, isT_list_lst, mIsNet, mWires, mComps, mChain, fAdd_int, fSub_int, fMul_r, fMul_l, fDiv_c, fMod_c, fPow_c, fLt_int, fLe_int, fGt_int, fGe_int, fEq_int, fNe_int, fEq_bl, fNe_bl, fAdd_tup, fAdd_lst, fIx_lst, fIx_tup, fIx_frz, mSl, pNone, pSome, fIsN, fIsB, gN, gT, gsN, gTs, gsNil, gsCons, gIx, mCall, mMeth, isNetD, postC, imm, imms, List.getElem?_cons_zero, List.getElem?_cons_succ, List.set_cons_zero, List.set_cons_succ, Option.bind_some, Option.bind_none, Option.map_some, Option.map_none, Option.or_some, Option.or_none, Option.none_or, List.map_cons, List.map_nil, List.all_cons, List.all_nil, Bool.and_true, Bool.true_and, Bool.and_false, Bool.false_and, if_true, if_false, reduceCtorEq, decide_true, decide_false, ne_eq, not_true_eq_false, not_false_eq_true, List.length_cons, List.length_nil, List.getElem?_nil, List.set_nil, reduceIte, Bool.false_eq_true, Int.reduceNeg, Int.reduceLT, Int.reduceLE, Int.reducePow, Nat.reducePow, Nat.reduceLT, Nat.reduceLeDiff, Nat.reduceAdd, Int.reduceToNat, and_self, Nat.zero_le, Bool.not_true, Bool.not_false, Bool.not_eq_true, zero_add_nat, e, isnum_ok]
end Lw

set_option maxRecDepth 100000
set_option maxHeartbeats 4000000
namespace Lw
open PySem L2 Dt
theorem imms_prs : ∀ ps : List (Int × Int), imms (prs ps) = true
  | [] => rfl
  | p :: ps => by simp only [prs, List.map_cons, imms, imm, Bool.true_and]; exact imms_prs ps
theorem fNet_ok {w : Int} {ps : List (Int × Int)} {a b : Fl} (hw : 1 ≤ w) (h : okP w ps) (hl : ps.length ≤ 100000) : fNet [(.int w, a), (.lst (prs ps), b)] = some (.net w (.tup (prs ps)), .pure) := by
  have h2 : (prs ps).length ≤ lim := by rw [List.length_map]; exact hl
  unfold fNet
  simp only [Dt.pairsOf, Option.bind_some]
  rw [if_pos ⟨hw, okP_okPairs h, h2⟩]
theorem fNet_tup {w : Int} {ps : List (Int × Int)} {a b : Fl} (hw : 1 ≤ w) (h : okP w ps) (hl : ps.length ≤ 100000) : fNet [(.int w, a), (.tup (prs ps), b)] = some (.net w (.tup (prs ps)), .pure) := by
  have h2 : (prs ps).length ≤ lim := by rw [List.length_map]; exact hl
  unfold fNet
  simp only [Dt.pairsOf, Option.bind_some]
  rw [if_pos ⟨hw, okP_okPairs h, h2⟩]
theorem isrow_eq {c d : List Int} (e : c = d) (hc : c.length ≤ 100000) : f__law_is_row [.tup (iL c), .tup (iL d)] = some (.bl true, false) := by subst e; exact isrow_ok hc

theorem prs_len {ps : List (Int × Int)} : (prs ps).length = ps.length := List.length_map _
theorem at_prs {ps : List (Int × Int)} {j : Nat} (h : j < ps.length) : atI (prs ps) (j : Int) = some (.tup (iL [ps[j].1, ps[j].2])) := by
  have := atI_lt (xs := prs ps) (j := j) (by rw [prs_len]; exact h)
  rw [this]; simp
theorem made_ok {w : Int} {ps : List (Int × Int)} (hl : ps.length ≤ 100000) : f__law_is_made [.net w (.tup (prs ps)), .int w, .lst (prs ps)] = some (.bl true, false) := by
  unfold f__law_is_made runF b__law_is_made
  simp only [List.map_cons, List.map_nil, List.length_cons, List.length_nil, Nat.reduceAdd, Nat.reduceSub, List.replicate, List.cons_append, List.nil_append]
  rw [seq_nx (by simp only [sIf, sSet, sRet, sNil, sNo, sApp, sAug, sAsg, sExpr, sFrz, sPar, sRev, sRetN, frz1, mOp, mVar, mC, mB, mNot, mAnd, mOr, mNeg, mIf, bNot, bAnd, bOr, bYes, mTup, mLst, aNil, aCons, nb, mFn, fLen, fList, fTuple, fMax2, fMin2, mIsT, isT_int_int, isT_int_bl, isT_bool_int, isT_bool_bl, isT_tuple_tup, isT_list_lst, mIsNet, mWires, mComps, mChain, fAdd_int, fSub_int, fMul_r, fMul_l, fDiv_c, fMod_c, fPow_c, fLt_int, fLe_int, fGt_int, fGe_int, fEq_int, fNe_int, fEq_bl, fNe_bl, fAdd_tup, fAdd_lst, fIx_lst, fIx_tup, fIx_frz, mSl, pNone, pSome, fIsN, fIsB, gN, gT, gsN, gTs, gsNil, gsCons, gIx, mCall, mMeth, isNetD, postC, imm, imms, List.getElem?_cons_zero, List.getElem?_cons_succ, List.set_cons_zero, List.set_cons_succ, Option.bind_some, Option.bind_none, Option.map_some, Option.map_none, Option.or_some, Option.or_none, Option.none_or, List.map_cons, List.map_nil, List.all_cons, List.all_nil, Bool.and_true, Bool.true_and, Bool.and_false, Bool.false_and, if_true, if_false, reduceCtorEq, decide_true, decide_false, ne_eq, not_true_eq_false, not_false_eq_true, List.length_cons, List.length_nil, List.getElem?_nil, List.set_nil, reduceIte, Bool.false_eq_true, Int.reduceNeg, Int.reduceLT, Int.reduceLE, Int.reducePow, Nat.reducePow, Nat.reduceLT, Nat.reduceLeDiff, Nat.reduceAdd, Int.reduceToNat, and_self, Nat.zero_le, Bool.not_true, Bool.not_false, Bool.not_eq_true, zero_add_nat, isnum_ok]; rfl), seq_nx (by simp only [sIf, sSet, sRet, sNil, sNo, sApp, sAug, sAsg, sExpr, sFrz, sPar, sRev, sRetN, frz1, mOp, mVar, mC, mB, mNot, mAnd, mOr, mNeg, mIf, bNot, bAnd, bOr, bYes, mTup, mLst, aNil, aCons, nb, mFn, fLen, fList, fTuple, fMax2, fMin2, mIsT, isT_int_int, isT_int_bl, isT_bool_int, isT_bool_bl, isT_tuple_tup, isT_list_lst, mIsNet, mWires, mComps, mChain, fAdd_int, fSub_int, fMul_r, fMul_l, fDiv_c, fMod_c, fPow_c, fLt_int, fLe_int, fGt_int, fGe_int, fEq_int, fNe_int, fEq_bl, fNe_bl, fAdd_tup, fAdd_lst, fIx_lst, fIx_tup, fIx_frz, mSl, pNone, pSome, fIsN, fIsB, gN, gT, gsN, gTs, gsNil, gsCons, gIx, mCall, mMeth, isNetD, postC, imm, imms, List.getElem?_cons_zero, List.getElem?_cons_succ, List.set_cons_zero, List.set_cons_succ, Option.bind_some, Option.bind_none, Option.map_some, Option.map_none, Option.or_some, Option.or_none, Option.none_or, List.map_cons, List.map_nil, List.all_cons, List.all_nil, Bool.and_true, Bool.true_and, Bool.and_false, Bool.false_and, if_true, if_false, reduceCtorEq, decide_true, decide_false, ne_eq, not_true_eq_false, not_false_eq_true, List.length_cons, List.length_nil, List.getElem?_nil, List.set_nil, reduceIte, Bool.false_eq_true, Int.reduceNeg, Int.reduceLT, Int.reduceLE, Int.reducePow, Nat.reducePow, Nat.reduceLT, Nat.reduceLeDiff, Nat.reduceAdd, Int.reduceToNat, and_self, Nat.zero_le, Bool.not_true, Bool.not_false, Bool.not_eq_true, zero_add_nat]; rfl)]
  have hr : iR1 (aCons (mFn fLen (aCons (mVar 2) aNil)) aNil) [some (.net w (.tup (prs ps)), false), some (.int w, false), some (.lst (prs ps), false), none] = some (rngD 0 ps.length) := iR1_ok (a := .pure) (by simp only [sIf, sSet, sRet, sNil, sNo, sApp, sAug, sAsg, sExpr, sFrz, sPar, sRev, sRetN, frz1, mOp, mVar, mC, mB, mNot, mAnd, mOr, mNeg, mIf, bNot, bAnd, bOr, bYes, mTup, mLst, aNil, aCons, nb, mFn, fLen, fList, fTuple, fMax2, fMin2, mIsT, isT_int_int, isT_int_bl, isT_bool_int, isT_bool_bl, isT_tuple_tup, isT_list_lst, mIsNet, mWires, mComps, mChain, fAdd_int, fSub_int, fMul_r, fMul_l, fDiv_c, fMod_c, fPow_c, fLt_int, fLe_int, fGt_int, fGe_int, fEq_int, fNe_int, fEq_bl, fNe_bl, fAdd_tup, fAdd_lst, fIx_lst, fIx_tup, fIx_frz, mSl, pNone, pSome, fIsN, fIsB, gN, gT, gsN, gTs, gsNil, gsCons, gIx, mCall, mMeth, isNetD, postC, imm, imms, List.getElem?_cons_zero, List.getElem?_cons_succ, List.set_cons_zero, List.set_cons_succ, Option.bind_some, Option.bind_none, Option.map_some, Option.map_none, Option.or_some, Option.or_none, Option.none_or, List.map_cons, List.map_nil, List.all_cons, List.all_nil, Bool.and_true, Bool.true_and, Bool.and_false, Bool.false_and, if_true, if_false, reduceCtorEq, decide_true, decide_false, ne_eq, not_true_eq_false, not_false_eq_true, List.length_cons, List.length_nil, List.getElem?_nil, List.set_nil, reduceIte, Bool.false_eq_true, Int.reduceNeg, Int.reduceLT, Int.reduceLE, Int.reducePow, Nat.reducePow, Nat.reduceLT, Nat.reduceLeDiff, Nat.reduceAdd, Int.reduceToNat, and_self, Nat.zero_le, Bool.not_true, Bool.not_false, Bool.not_eq_true, zero_add_nat, prs_len]) hl
  have loop := forGo0 (g := gN 3) (m := (sIf (bNot (mB (mCall f__law_is_row (aCons (mOp fIx (mComps (mVar 0)) (mVar 3)) (aCons (mOp fIx (mVar 2) (mVar 3)) aNil))))) (sRet (mC (.bl false))) sNil))
    (fun _ ρ => ∃ a, ρ = [some (.net w (.tup (prs ps)), false), some (.int w, false), some (.lst (prs ps), false), a]) (ds := rngD 0 ps.length) (ρ := [some (.net w (.tup (prs ps)), false), some (.int w, false), some (.lst (prs ps), false), none]) ⟨none, rfl⟩ ?_
  · obtain ⟨ρ', h1, a, rfl⟩ := loop
    rw [seq_nx ((for_ok hr).trans h1)]
    simp only [sIf, sSet, sRet, sNil, sNo, sApp, sAug, sAsg, sExpr, sFrz, sPar, sRev, sRetN, frz1, mOp, mVar, mC, mB, mNot, mAnd, mOr, mNeg, mIf, bNot, bAnd, bOr, bYes, mTup, mLst, aNil, aCons, nb, mFn, fLen, fList, fTuple, fMax2, fMin2, mIsT, isT_int_int, isT_int_bl, isT_bool_int, isT_bool_bl, isT_tuple_tup, isT_list_lst, mIsNet, mWires, mComps, mChain, fAdd_int, fSub_int, fMul_r, fMul_l, fDiv_c, fMod_c, fPow_c, fLt_int, fLe_int, fGt_int, fGe_int, fEq_int, fNe_int, fEq_bl, fNe_bl, fAdd_tup, fAdd_lst, fIx_lst, fIx_tup, fIx_frz, mSl, pNone, pSome, fIsN, fIsB, gN, gT, gsN, gTs, gsNil, gsCons, gIx, mCall, mMeth, isNetD, postC, imm, imms, List.getElem?_cons_zero, List.getElem?_cons_succ, List.set_cons_zero, List.set_cons_succ, Option.bind_some, Option.bind_none, Option.map_some, Option.map_none, Option.or_some, Option.or_none, Option.none_or, List.map_cons, List.map_nil, List.all_cons, List.all_nil, Bool.and_true, Bool.true_and, Bool.and_false, Bool.false_and, if_true, if_false, reduceCtorEq, decide_true, decide_false, ne_eq, not_true_eq_false, not_false_eq_true, List.length_cons, List.length_nil, List.getElem?_nil, List.set_nil, reduceIte, Bool.false_eq_true, Int.reduceNeg, Int.reduceLT, Int.reduceLE, Int.reducePow, Nat.reducePow, Nat.reduceLT, Nat.reduceLeDiff, Nat.reduceAdd, Int.reduceToNat, and_self, Nat.zero_le, Bool.not_true, Bool.not_false, Bool.not_eq_true, zero_add_nat]
  · rintro j d ρ hd ⟨a, rfl⟩
    obtain ⟨hj, rfl⟩ := rng_get hd
    have e := at_prs hj
    have e2 := isrow_ok (c := [ps[j].1, ps[j].2]) (by simp)
    refine ⟨[some (.net w (.tup (prs ps)), false), some (.int w, false), some (.lst (prs ps), false), some (.int j, false)], [some (.net w (.tup (prs ps)), false), some (.int w, false), some (.lst (prs ps), false), some (.int j, false)], by simp only [sIf, sSet, sRet, sNil, sNo, sApp, sAug, sAsg, sExpr, sFrz, sPar, sRev, sRetN, frz1, mOp, mVar, mC, mB, mNot, mAnd, mOr, mNeg, mIf, bNot, bAnd, bOr, bYes, mTup, mLst, aNil, aCons, nb, mFn, fLen, fList, fTuple, fMax2, fMin2, mIsT, isT_int_int, isT_int_bl, isT_bool_int, isT_bool_bl, isT_tuple_tup, isT_list_lst, mIsNet, mWires, mComps, mChain, fAdd_int, fSub_int, fMul_r, fMul_l, fDiv_c, fMod_c, fPow_c, fLt_int, fLe_int, fGt_int, fGe_int, fEq_int, fNe_int, fEq_bl, fNe_bl, fAdd_tup, fAdd_lst, fIx_lst, fIx_tup, fIx_frz, mSl, pNone, pSome, fIsN, fIsB, gN, gT, gsN, gTs, gsNil, gsCons, gIx, mCall, mMeth, isNetD, postC, imm, imms, List.getElem?_cons_zero, List.getElem?_cons_succ, List.set_cons_zero, List.set_cons_succ, Option.bind_some, Option.bind_none, Option.map_some, Option.map_none, Option.or_some, Option.or_none, Option.none_or, List.map_cons, List.map_nil, List.all_cons, List.all_nil, Bool.and_true, Bool.true_and, Bool.and_false, Bool.false_and, if_true, if_false, reduceCtorEq, decide_true, decide_false, ne_eq, not_true_eq_false, not_false_eq_true, List.length_cons, List.length_nil, List.getElem?_nil, List.set_nil, reduceIte, Bool.false_eq_true, Int.reduceNeg, Int.reduceLT, Int.reduceLE, Int.reducePow, Nat.reducePow, Nat.reduceLT, Nat.reduceLeDiff, Nat.reduceAdd, Int.reduceToNat, and_self, Nat.zero_le, Bool.not_true, Bool.not_false, Bool.not_eq_true, zero_add_nat], ?_, _, rfl⟩
    simp only [List.map_cons, List.map_nil] at e e2
    simp only [sIf, sSet, sRet, sNil, sNo, sApp, sAug, sAsg, sExpr, sFrz, sPar, sRev, sRetN, frz1, mOp, mVar, mC, mB, mNot, mAnd, mOr, mNeg, mIf, bNot, bAnd, bOr, bYes, mTup, mLst, aNil, aCons, nb, mFn, fLen, fList, fTuple, fMax2, fMin2, mIsT, isT_int_int, isT_int_bl, isT_bool_int, isT_bool_bl, isT_tuple_tup, isT_list_lst, mIsNet, mWires, mComps, mChain, fAdd_int, fSub_int, fMul_r, fMul_l, fDiv_c, fMod_c, fPow_c, fLt_int, fLe_int, fGt_int, fGe_int, fEq_int, fNe_int, fEq_bl, fNe_bl, fAdd_tup, fAdd_lst, fIx_lst, fIx_tup, fIx_frz, mSl, pNone, pSome, fIsN, fIsB, gN, gT, gsN, gTs, gsNil, gsCons, gIx, mCall, mMeth, isNetD, postC, imm, imms, List.getElem?_cons_zero, List.getElem?_cons_succ, List.set_cons_zero, List.set_cons_succ, Option.bind_some, Option.bind_none, Option.map_some, Option.map_none, Option.or_some, Option.or_none, Option.none_or, List.map_cons, List.map_nil, List.all_cons, List.all_nil, Bool.and_true, Bool.true_and, Bool.and_false, Bool.false_and, if_true, if_false, reduceCtorEq, decide_true, decide_false, ne_eq, not_true_eq_false, not_false_eq_true, List.length_cons, List.length_nil, List.getElem?_nil, List.set_nil, reduceIte, Bool.false_eq_true, Int.reduceNeg, Int.reduceLT, Int.reduceLE, Int.reducePow, Nat.reducePow, Nat.reduceLT, Nat.reduceLeDiff, Nat.reduceAdd, Int.reduceToNat, and_self, Nat.zero_le, Bool.not_true, Bool.not_false, Bool.not_eq_true, zero_add_nat, e, e2]
theorem okP_app {w : Int} {ps qs : List (Int × Int)} (h1 : okP w ps) (h2 : okP w qs) : okP w (ps ++ qs) := fun p hp => (List.mem_append.mp hp).elim (h1 p) (h2 p)
theorem prs_append (ps qs : List (Int × Int)) : prs ps ++ prs qs = prs (ps ++ qs) := by simp
theorem runL_app (ps qs : List (Int × Int)) (c : List Int) : runL (ps ++ qs) c = runL qs (runL ps c) := by simp [runL, List.foldl_append]
theorem joined_ok {w : Int} {ps qs : List (Int × Int)} (hw : 1 ≤ w) (h1 : okP w ps) (h2 : okP w qs) (hl : ps.length + qs.length ≤ 100000) : f_joined [.net w (.tup (prs ps)), .net w (.tup (prs qs))] = some (.net w (.tup (prs (ps ++ qs))), false) := by
  unfold f_joined runF b_joined
  simp only [List.map_cons, List.map_nil, List.length_cons, List.length_nil, Nat.reduceAdd, Nat.reduceSub, List.replicate, List.cons_append, List.nil_append, Nat.sub_self, List.append_nil]
  have hll : (prs ps).length + (prs qs).length ≤ lim := by rw [prs_len, prs_len]; exact hl
  have e := fNet_tup (w := w) (ps := ps ++ qs) (a := .pure) (b := .pure) hw (okP_app h1 h2) (by simp; omega)
  simp only [sIf, sSet, sRet, sNil, sNo, sApp, sAug, sAsg, sExpr, sFrz, sPar, sRev, sRetN, frz1, mOp, mVar, mC, mB, mNot, mAnd, mOr, mNeg, mIf, bNot, bAnd, bOr, bYes, mTup, mLst, aNil, aCons, nb, mFn, fLen, fList, fTuple, fMax2, fMin2, mIsT, isT_int_int, isT_int_bl, isT_bool_int, isT_bool_bl, isT_tuple_tup, isT_list_lst, mIsNet, mWires, mComps, mChain, fAdd_int, fSub_int, fMul_r, fMul_l, fDiv_c, fMod_c, fPow_c, fLt_int, fLe_int, fGt_int, fGe_int, fEq_int, fNe_int, fEq_bl, fNe_bl, fAdd_tup, fAdd_lst, fIx_lst, fIx_tup, fIx_frz, mSl, pNone, pSome, fIsN, fIsB, gN, gT, gsN, gTs, gsNil, gsCons, gIx, mCall, mMeth, isNetD, postC, imm, imms, List.getElem?_cons_zero, List.getElem?_cons_succ, List.set_cons_zero, List.set_cons_succ, Option.bind_some, Option.bind_none, Option.map_some, Option.map_none, Option.or_some, Option.or_none, Option.none_or, List.map_cons, List.map_nil, List.all_cons, List.all_nil, Bool.and_true, Bool.true_and, Bool.and_false, Bool.false_and, if_true, if_false, reduceCtorEq, decide_true, decide_false, ne_eq, not_true_eq_false, not_false_eq_true, List.length_cons, List.length_nil, List.getElem?_nil, List.set_nil, reduceIte, Bool.false_eq_true, Int.reduceNeg, Int.reduceLT, Int.reduceLE, Int.reducePow, Nat.reducePow, Nat.reduceLT, Nat.reduceLeDiff, Nat.reduceAdd, Int.reduceToNat, and_self, Nat.zero_le, Bool.not_true, Bool.not_false, Bool.not_eq_true, zero_add_nat, if_pos hll, e, prs_append]
def shP (s : Int) (ps : List (Int × Int)) : List (Int × Int) := ps.map fun p => (p.1 + s, p.2 + s)
theorem lcwid {P W : Option (D × Bool)} {s : Int} : ∀ (ps : List (Int × Int)) (a b : Option (D × Bool)), lcGo (gT [3, 4]) bYes (mTup (aCons (mOp fAdd (mVar 3) (mVar 2)) (aCons (mOp fAdd (mVar 4) (mVar 2)) aNil))) (prs ps) [P, W, some (.int s, false), a, b] = some (prs (shP s ps))
  | [], _, _ => rfl
  | p :: ps, a, b => by
    have ih := lcwid (P := P) (W := W) (s := s) ps a b
    show lcGo _ _ _ (.tup [.int p.1, .int p.2] :: prs ps) _ = _
    unfold lcGo
    rw [ih]
    simp only [sIf, sSet, sRet, sNil, sNo, sApp, sAug, sAsg, sExpr, sFrz, sPar, sRev, sRetN, frz1, mOp, mVar, mC, mB, mNot, mAnd, mOr, mNeg, mIf, bNot, bAnd, bOr, bYes, mTup, mLst, aNil, aCons, nb, mFn, fLen, fList, fTuple, fMax2, fMin2, mIsT, isT_int_int, isT_int_bl, isT_bool_int, isT_bool_bl, isT_tuple_tup, isT_list_lst, mIsNet, mWires, mComps, mChain, fAdd_int, fSub_int, fMul_r, fMul_l, fDiv_c, fMod_c, fPow_c, fLt_int, fLe_int, fGt_int, fGe_int, fEq_int, fNe_int, fEq_bl, fNe_bl, fAdd_tup, fAdd_lst, fIx_lst, fIx_tup, fIx_frz, mSl, pNone, pSome, fIsN, fIsB, gN, gT, gsN, gTs, gsNil, gsCons, gIx, mCall, mMeth, isNetD, postC, imm, imms, List.getElem?_cons_zero, List.getElem?_cons_succ, List.set_cons_zero, List.set_cons_succ, Option.bind_some, Option.bind_none, Option.map_some, Option.map_none, Option.or_some, Option.or_none, Option.none_or, List.map_cons, List.map_nil, List.all_cons, List.all_nil, Bool.and_true, Bool.true_and, Bool.and_false, Bool.false_and, if_true, if_false, reduceCtorEq, decide_true, decide_false, ne_eq, not_true_eq_false, not_false_eq_true, List.length_cons, List.length_nil, List.getElem?_nil, List.set_nil, reduceIte, Bool.false_eq_true, Int.reduceNeg, Int.reduceLT, Int.reduceLE, Int.reducePow, Nat.reducePow, Nat.reduceLT, Nat.reduceLeDiff, Nat.reduceAdd, Int.reduceToNat, and_self, Nat.zero_le, Bool.not_true, Bool.not_false, Bool.not_eq_true, zero_add_nat, lim2, shP]
theorem shP_ok {w m s : Int} {ps : List (Int × Int)} (h : okP w ps) (hs : 0 ≤ s) (hm : w + s ≤ m) : okP m (shP s ps) := fun p hp => by
  obtain ⟨q, hq, rfl⟩ := List.mem_map.mp hp
  obtain ⟨h1, h2, h3, h4, h5⟩ := h q hq
  exact ⟨by simp only []; omega, by simp only []; omega, by simp only []; omega, by simp only []; omega, by simp only []; omega⟩
theorem shP_len {s : Int} {ps : List (Int × Int)} : (shP s ps).length = ps.length := List.length_map _
theorem widened_ok {w m s : Int} {ps : List (Int × Int)} (hm : 1 ≤ m) (h : okP w ps) (hs : 0 ≤ s) (hms : w + s ≤ m) (hl : ps.length ≤ 100000) : f_widened [.net w (.tup (prs ps)), .int m, .int s] = some (.net m (.tup (prs (shP s ps))), false) := by
  unfold f_widened runF b_widened
  simp only [List.map_cons, List.map_nil, List.length_cons, List.length_nil, Nat.reduceAdd, Nat.reduceSub, List.replicate, List.cons_append, List.nil_append]
  have hll : (prs ps).length ≤ lim := by rw [prs_len]; exact hl
  have e1 : mLc (iS true (mComps (mVar 0))) (gT [3, 4]) bYes (mTup (aCons (mOp fAdd (mVar 3) (mVar 2)) (aCons (mOp fAdd (mVar 4) (mVar 2)) aNil))) [3, 4] [some (.net w (.tup (prs ps)), false), some (.int m, false), some (.int s, false), none, none] = some (.lst (prs (shP s ps)), .fresh) := by
    simp only [mLc, iS, sIf, sSet, sRet, sNil, sNo, sApp, sAug, sAsg, sExpr, sFrz, sPar, sRev, sRetN, frz1, mOp, mVar, mC, mB, mNot, mAnd, mOr, mNeg, mIf, bNot, bAnd, bOr, bYes, mTup, mLst, aNil, aCons, nb, mFn, fLen, fList, fTuple, fMax2, fMin2, mIsT, isT_int_int, isT_int_bl, isT_bool_int, isT_bool_bl, isT_tuple_tup, isT_list_lst, mIsNet, mWires, mComps, mChain, fAdd_int, fSub_int, fMul_r, fMul_l, fDiv_c, fMod_c, fPow_c, fLt_int, fLe_int, fGt_int, fGe_int, fEq_int, fNe_int, fEq_bl, fNe_bl, fAdd_tup, fAdd_lst, fIx_lst, fIx_tup, fIx_frz, mSl, pNone, pSome, fIsN, fIsB, gN, gT, gsN, gTs, gsNil, gsCons, gIx, mCall, mMeth, isNetD, postC, imm, imms, List.getElem?_cons_zero, List.getElem?_cons_succ, List.set_cons_zero, List.set_cons_succ, Option.bind_some, Option.bind_none, Option.map_some, Option.map_none, Option.or_some, Option.or_none, Option.none_or, List.map_cons, List.map_nil, List.all_cons, List.all_nil, Bool.and_true, Bool.true_and, Bool.and_false, Bool.false_and, if_true, if_false, reduceCtorEq, decide_true, decide_false, ne_eq, not_true_eq_false, not_false_eq_true, List.length_cons, List.length_nil, List.getElem?_nil, List.set_nil, reduceIte, Bool.false_eq_true, Int.reduceNeg, Int.reduceLT, Int.reduceLE, Int.reducePow, Nat.reducePow, Nat.reduceLT, Nat.reduceLeDiff, Nat.reduceAdd, Int.reduceToNat, and_self, Nat.zero_le, Bool.not_true, Bool.not_false, Bool.not_eq_true, zero_add_nat, wipeE, if_pos hll]
    rw [lcwid]; rfl
  have e := fNet_ok (w := m) (ps := shP s ps) (a := .pure) (b := .fresh) hm (shP_ok h hs hms) (by rw [shP_len]; exact hl)
  simp only [sRet, mFn, aCons, mVar, List.getElem?_cons_succ, List.getElem?_cons_zero, Option.bind_some, e1, aNil, Option.map_some, e, Bool.false_eq_true, if_false, ne_eq, not_true_eq_false, decide_false]
/-! a part of a row -/
theorem cmp1_part (A B Cc : List Int) {p : Int × Int} (h : 0 ≤ p.1 ∧ p.1 < B.length ∧ 0 ≤ p.2 ∧ p.2 < B.length ∧ p.1 ≠ p.2) : cmp1 (A ++ B ++ Cc) (p.1 + A.length, p.2 + A.length) = A ++ cmp1 B p ++ Cc := by
  obtain ⟨h1, h2, h3, h4, h5⟩ := h
  have n1 : (p.1 + (A.length : Int)).toNat = A.length + p.1.toNat := by omega
  have n2 : (p.2 + (A.length : Int)).toNat = A.length + p.2.toNat := by omega
  have l1 : p.1.toNat < B.length := by omega
  have l2 : p.2.toNat < B.length := by omega
  have g : ∀ {k : Nat}, k < B.length → (A ++ B ++ Cc).getD (A.length + k) 0 = B.getD k 0 := fun {k} hk => by
    rw [List.getD_eq_getElem?_getD, List.getD_eq_getElem?_getD, List.append_assoc, List.getElem?_append_right (by omega), Nat.add_sub_cancel_left, List.getElem?_append_left hk]
  have st : ∀ {k : Nat} {x : Int} {B : List Int}, k < B.length → (A ++ B ++ Cc).set (A.length + k) x = A ++ B.set k x ++ Cc := fun {k x B} hk => by
    rw [List.append_assoc, List.set_append_right _ _ (by omega), Nat.add_sub_cancel_left, List.set_append_left _ _ hk, List.append_assoc]
  unfold cmp1
  simp only [n1, n2, g l1, g l2]
  rw [st l2, st (by rw [List.length_set]; exact l1)]
theorem runL_part (A Cc : List Int) : ∀ (ps : List (Int × Int)) (B : List Int), okP B.length ps → runL (shP A.length ps) (A ++ B ++ Cc) = A ++ runL ps B ++ Cc
  | [], _, _ => rfl
  | p :: ps, B, h => by
    show runL (shP A.length ps) (cmp1 (A ++ B ++ Cc) (p.1 + A.length, p.2 + A.length)) = A ++ runL ps (cmp1 B p) ++ Cc
    rw [cmp1_part A B Cc (h p List.mem_cons_self)]
    exact runL_part A Cc ps (cmp1 B p) (by rw [cmp1_len]; exact fun q hq => h q (List.mem_cons_of_mem _ hq))
theorem cut_nat {α : Type} {xs : List α} {a b : Nat} (h1 : a ≤ b) (h2 : b ≤ xs.length) : cutD xs (some (a : Int)) (some (b : Int)) = (xs.drop a).take (b - a) := by
  unfold cutD
  rw [HT.sIx_nat, HT.sIx_nat, Nat.min_eq_left h2, Nat.min_eq_left (show a ≤ xs.length by omega)]
theorem cut_to {α : Type} {xs : List α} {b : Nat} : cutD xs none (some (b : Int)) = xs.take b := by
  unfold cutD
  rw [HT.sIx_nat, HT.sIx_none, Nat.sub_zero, List.drop_zero]
  by_cases h : b ≤ xs.length
  · rw [Nat.min_eq_left h]
  · rw [Nat.min_eq_right (by omega), List.take_length, List.take_of_length_le (by omega)]
theorem cut_from {α : Type} {xs : List α} {a : Nat} (h : a ≤ xs.length) : cutD xs (some (a : Int)) none = xs.drop a := by
  unfold cutD
  rw [HT.sIx_nat, HT.sIx_none, Nat.min_eq_left h]
  exact List.take_of_length_le (by rw [List.length_drop]; omega)
theorem iL_cut (xs : List Int) (lo hi : Option Int) : cutD (iL xs) lo hi = iL (cutD xs lo hi) := by unfold cutD; simp
theorem prs_cut (xs : List (Int × Int)) (lo hi : Option Int) : cutD (prs xs) lo hi = prs (cutD xs lo hi) := by unfold cutD; simp
theorem fMul_rep {ds : List D} {k : Nat} {a b : Fl} (h : ds.length * k ≤ 100000) (hk : k ≤ 100000) : fMul (.lst ds, a) (.int (k : Int), b) = some (.lst (List.replicate k ds).flatten, .fresh) := by
  show ((none : Option (D × Fl)).or (fRepL (.lst ds, a) (.int (k : Int), b))) = _
  rw [Option.none_or]
  unfold fRepL
  simp only []
  rw [if_pos ⟨by omega, by unfold lim; omega, by rw [Int.toNat_natCast]; exact h⟩, Int.toNat_natCast]
theorem prs_rep (ps : List (Int × Int)) : ∀ k : Nat, (List.replicate k (prs ps)).flatten = prs (List.replicate k ps).flatten
  | 0 => rfl
  | k + 1 => by rw [List.replicate_succ, List.flatten_cons, prs_rep ps k, prs_append, List.replicate_succ, List.flatten_cons]
theorem okP_rep {w : Int} {ps : List (Int × Int)} (h : okP w ps) (k n : Nat) : okP w ((List.replicate k ps).flatten.take n) := fun p hp => by
  have h1 := List.mem_of_mem_take hp
  obtain ⟨l, hl, hp2⟩ := List.mem_flatten.mp h1
  have := List.eq_of_mem_replicate hl
  subst this
  exact h p hp2
end Lw

set_option maxRecDepth 100000
set_option maxHeartbeats 4000000
namespace Lw
open PySem L2 Dt
/-! == of rows -/
theorem isDats_iL : ∀ xs : List Int, isDats (iL xs) = true
  | [] => rfl
  | x :: xs => by simp only [iL, List.map_cons, isDats, isDat, Bool.true_and]; exact isDats_iL xs
theorem layAll_int : ∀ xs : List Int, PyData.canLayAll0 (xs.map PyData.int) = true
  | [] => by simp [PyData.canLayAll0]
  | x :: xs => by simp [PyData.canLayAll0, PyData.canLay0, layAll_int xs]
theorem depAll_int : ∀ xs : List Int, PyData.depthAll (xs.map PyData.int) ≤ 1
  | [] => by simp [PyData.depthAll]
  | x :: xs => by
    have := depAll_int xs
    simp only [List.map_cons, PyData.depthAll, PyData.depth]
    omega
theorem okD_lst (xs : List Int) : okD (.lst (iL xs)) = true := by
  have h1 := layAll_int xs
  have h2 := depAll_int xs
  unfold okD
  simp only [isDat, isDats_iL, py, pys_iL, Bool.true_and]
  show ((PyData.list (xs.map .int)).canLay0 && decide ((PyData.list (xs.map .int)).depth ≤ 64)) = true
  rw [Bool.and_eq_true]
  exact ⟨by simp only [PyData.canLay0]; exact h1, decide_eq_true (by simp only [PyData.depth]; omega)⟩
theorem okD_tup (xs : List Int) : okD (.tup (iL xs)) = true := by
  have h1 := layAll_int xs
  have h2 := depAll_int xs
  unfold okD
  simp only [isDat, isDats_iL, py, pys_iL, Bool.true_and]
  show ((PyData.tuple (xs.map .int)).canLay0 && decide ((PyData.tuple (xs.map .int)).depth ≤ 64)) = true
  rw [Bool.and_eq_true]
  exact ⟨by simp only [PyData.canLay0]; exact h1, decide_eq_true (by simp only [PyData.depth]; omega)⟩
theorem eqvAll_int : ∀ xs ys : List Int, PyData.eqvAll (xs.map .int) (ys.map .int) = decide (xs = ys)
  | [], [] => by simp [PyData.eqvAll]
  | [], y :: ys => by simp [PyData.eqvAll]
  | x :: xs, [] => by simp [PyData.eqvAll]
  | x :: xs, y :: ys => by
    simp only [List.map_cons, PyData.eqvAll, eqv_int, eqvAll_int xs ys]
    by_cases h1 : x = y
    · by_cases h2 : xs = ys
      · subst h1; subst h2; simp
      · simp [h1, h2]
    · simp [h1]
theorem fEq_lst {xs ys : List Int} {a b : Fl} : fEq (.lst (iL xs), a) (.lst (iL ys), b) = some (.bl (decide (xs = ys)), .pure) := by
  unfold fEq; rw [okD_lst, okD_lst]; simp only [py, pys_iL, PyData.eqv, eqvAll_int, Bool.and_self, if_true]
theorem fNe_lst {xs ys : List Int} {a b : Fl} : fNe (.lst (iL xs), a) (.lst (iL ys), b) = some (.bl (!decide (xs = ys)), .pure) := by
  unfold fNe; rw [okD_lst, okD_lst]; simp only [py, pys_iL, PyData.eqv, eqvAll_int, Bool.and_self, if_true]
theorem fEq_tup {xs ys : List Int} {a b : Fl} : fEq (.tup (iL xs), a) (.tup (iL ys), b) = some (.bl (decide (xs = ys)), .pure) := by
  unfold fEq; rw [okD_tup, okD_tup]; simp only [py, pys_iL, PyData.eqv, eqvAll_int, Bool.and_self, if_true]
/-! standard -/
def stdP (ps : List (Int × Int)) : Bool := ps.all fun p => decide (p.1 < p.2)
theorem lcstd {P : Option (D × Bool)} : ∀ (ps : List (Int × Int)) (a b : Option (D × Bool)), lcGo (gT [1, 2]) bYes (mOp fLt (mVar 1) (mVar 2)) (prs ps) [P, a, b] = some ((ps.map fun p => decide (p.1 < p.2)).map .bl)
  | [], _, _ => rfl
  | p :: ps, a, b => by
    have ih := lcstd (P := P) ps a b
    show lcGo _ _ _ (.tup [.int p.1, .int p.2] :: prs ps) _ = _
    unfold lcGo
    rw [ih]
    simp only [sIf, sSet, sRet, sNil, sNo, sApp, sAug, sAsg, sExpr, sFrz, sPar, sRev, sRetN, frz1, mOp, mVar, mC, mB, mNot, mAnd, mOr, mNeg, mIf, bNot, bAnd, bOr, bYes, mTup, mLst, aNil, aCons, nb, mFn, fLen, fList, fTuple, fMax2, fMin2, mIsT, isT_int_int, isT_int_bl, isT_bool_int, isT_bool_bl, isT_tuple_tup, isT_list_lst, mIsNet, mWires, mComps, mChain, fAdd_int, fSub_int, fMul_r, fMul_l, fDiv_c, fMod_c, fPow_c, fLt_int, fLe_int, fGt_int, fGe_int, fEq_int, fNe_int, fEq_bl, fNe_bl, fAdd_tup, fAdd_lst, fIx_lst, fIx_tup, fIx_frz, mSl, pNone, pSome, fIsN, fIsB, gN, gT, gsN, gTs, gsNil, gsCons, gIx, mCall, mMeth, isNetD, postC, imm, imms, List.getElem?_cons_zero, List.getElem?_cons_succ, List.set_cons_zero, List.set_cons_succ, Option.bind_some, Option.bind_none, Option.map_some, Option.map_none, Option.or_some, Option.or_none, Option.none_or, List.map_cons, List.map_nil, List.all_cons, List.all_nil, Bool.and_true, Bool.true_and, Bool.and_false, Bool.false_and, if_true, if_false, reduceCtorEq, decide_true, decide_false, ne_eq, not_true_eq_false, not_false_eq_true, List.length_cons, List.length_nil, List.getElem?_nil, List.set_nil, reduceIte, Bool.false_eq_true, Int.reduceNeg, Int.reduceLT, Int.reduceLE, Int.reducePow, Nat.reducePow, Nat.reduceLT, Nat.reduceLeDiff, Nat.reduceAdd, Int.reduceToNat, and_self, Nat.zero_le, Bool.not_true, Bool.not_false, Bool.not_eq_true, zero_add_nat]
theorem isstd_ok {w : Int} {ps : List (Int × Int)} (hl : ps.length ≤ 100000) : f_Network_is_standard [.net w (.tup (prs ps))] = some (.bl (stdP ps), false) := by
  unfold f_Network_is_standard runF b_Network_is_standard
  simp only [List.map_cons, List.map_nil, List.length_cons, List.length_nil, Nat.reduceAdd, Nat.reduceSub, List.replicate, List.cons_append, List.nil_append]
  have hll : (prs ps).length ≤ lim := by rw [prs_len]; exact hl
  have e1 : mLc (iS true (mComps (mVar 0))) (gT [1, 2]) bYes (mOp fLt (mVar 1) (mVar 2)) [1, 2] [some (.net w (.tup (prs ps)), false), none, none] = some (.lst ((ps.map fun p => decide (p.1 < p.2)).map .bl), .fresh) := by
    simp only [mLc, iS, sIf, sSet, sRet, sNil, sNo, sApp, sAug, sAsg, sExpr, sFrz, sPar, sRev, sRetN, frz1, mOp, mVar, mC, mB, mNot, mAnd, mOr, mNeg, mIf, bNot, bAnd, bOr, bYes, mTup, mLst, aNil, aCons, nb, mFn, fLen, fList, fTuple, fMax2, fMin2, mIsT, isT_int_int, isT_int_bl, isT_bool_int, isT_bool_bl, isT_tuple_tup, isT_list_lst, mIsNet, mWires, mComps, mChain, fAdd_int, fSub_int, fMul_r, fMul_l, fDiv_c, fMod_c, fPow_c, fLt_int, fLe_int, fGt_int, fGe_int, fEq_int, fNe_int, fEq_bl, fNe_bl, fAdd_tup, fAdd_lst, fIx_lst, fIx_tup, fIx_frz, mSl, pNone, pSome, fIsN, fIsB, gN, gT, gsN, gTs, gsNil, gsCons, gIx, mCall, mMeth, isNetD, postC, imm, imms, List.getElem?_cons_zero, List.getElem?_cons_succ, List.set_cons_zero, List.set_cons_succ, Option.bind_some, Option.bind_none, Option.map_some, Option.map_none, Option.or_some, Option.or_none, Option.none_or, List.map_cons, List.map_nil, List.all_cons, List.all_nil, Bool.and_true, Bool.true_and, Bool.and_false, Bool.false_and, if_true, if_false, reduceCtorEq, decide_true, decide_false, ne_eq, not_true_eq_false, not_false_eq_true, List.length_cons, List.length_nil, List.getElem?_nil, List.set_nil, reduceIte, Bool.false_eq_true, Int.reduceNeg, Int.reduceLT, Int.reduceLE, Int.reducePow, Nat.reducePow, Nat.reduceLT, Nat.reduceLeDiff, Nat.reduceAdd, Int.reduceToNat, and_self, Nat.zero_le, Bool.not_true, Bool.not_false, Bool.not_eq_true, zero_add_nat, wipeE, if_pos hll]
    rw [lcstd]; rfl
  have e2 : ((ps.map fun p => decide (p.1 < p.2)).all id) = stdP ps := by
    unfold stdP; rw [List.all_map]; rfl
  simp only [sRet, mFn, aCons, aNil, e1, Option.bind_some, Option.map_some, fAll, getBls_map, e2, ne_eq, not_true_eq_false, decide_false]
/-! perhaps repeated -/
theorem many_ok {n w : Int} {ps : List (Int × Int)} (hl : ps.length ≤ 12) (h : okP w ps) : ∃ (ps' : List (Int × Int)) (fl : Bool), ps'.length ≤ 400 ∧ okP w ps' ∧ f__law_many [.int n, .lst (prs ps)] = some (.lst (prs ps'), fl) := by
  unfold f__law_many runF b__law_many
  simp only [List.map_cons, List.map_nil, List.length_cons, List.length_nil, Nat.reduceAdd, Nat.sub_self, List.replicate, List.append_nil]
  have n40 : ((40 : Nat) : Int) = 40 := rfl
  have n400 : ((400 : Nat) : Int) = 400 := rfl
  have r1 : ∀ {a b : Fl}, fMul (.lst (prs ps), a) (.int 40, b) = some (.lst (prs (List.replicate 40 ps).flatten), .fresh) := fun {a b} => by
    rw [← n40, fMul_rep (by rw [prs_len]; omega) (by omega), prs_rep]
  have t1 : ∀ ts : List (Int × Int), cutD (prs ts) none (some 400) = prs (ts.take 400) := fun ts => by rw [prs_cut, ← n400, cut_to]
  cases hb : decide (n / 6 % 8 = 1) with
  | true =>
    refine ⟨(List.replicate 40 ps).flatten.take 400, true, List.length_take_le _ _, okP_rep h _ _, ?_⟩
    rw [seq_rt (by simp only [sIf, sSet, sRet, sNil, sNo, sApp, sAug, sAsg, sExpr, sFrz, sPar, sRev, sRetN, frz1, mOp, mVar, mC, mB, mNot, mAnd, mOr, mNeg, mIf, bNot, bAnd, bOr, bYes, mTup, mLst, aNil, aCons, nb, mFn, fLen, fList, fTuple, fMax2, fMin2, mIsT, isT_int_int, isT_int_bl, isT_bool_int, isT_bool_bl, isT_tuple_tup, isT_list_lst, mIsNet, mWires, mComps, mChain, fAdd_int, fSub_int, fMul_r, fMul_l, fDiv_c, fMod_c, fPow_c, fLt_int, fLe_int, fGt_int, fGe_int, fEq_int, fNe_int, fEq_bl, fNe_bl, fAdd_tup, fAdd_lst, fIx_lst, fIx_tup, fIx_frz, mSl, pNone, pSome, fIsN, fIsB, gN, gT, gsN, gTs, gsNil, gsCons, gIx, mCall, mMeth, isNetD, postC, imm, imms, List.getElem?_cons_zero, List.getElem?_cons_succ, List.set_cons_zero, List.set_cons_succ, Option.bind_some, Option.bind_none, Option.map_some, Option.map_none, Option.or_some, Option.or_none, Option.none_or, List.map_cons, List.map_nil, List.all_cons, List.all_nil, Bool.and_true, Bool.true_and, Bool.and_false, Bool.false_and, if_true, if_false, reduceCtorEq, decide_true, decide_false, ne_eq, not_true_eq_false, not_false_eq_true, List.length_cons, List.length_nil, List.getElem?_nil, List.set_nil, reduceIte, Bool.false_eq_true, Int.reduceNeg, Int.reduceLT, Int.reduceLE, Int.reducePow, Nat.reducePow, Nat.reduceLT, Nat.reduceLeDiff, Nat.reduceAdd, Int.reduceToNat, and_self, Nat.zero_le, Bool.not_true, Bool.not_false, Bool.not_eq_true, zero_add_nat, hb, r1, t1]; rfl)]
  | false =>
    refine ⟨ps, false, by omega, h, ?_⟩
    rw [seq_nx (by simp only [sIf, sSet, sRet, sNil, sNo, sApp, sAug, sAsg, sExpr, sFrz, sPar, sRev, sRetN, frz1, mOp, mVar, mC, mB, mNot, mAnd, mOr, mNeg, mIf, bNot, bAnd, bOr, bYes, mTup, mLst, aNil, aCons, nb, mFn, fLen, fList, fTuple, fMax2, fMin2, mIsT, isT_int_int, isT_int_bl, isT_bool_int, isT_bool_bl, isT_tuple_tup, isT_list_lst, mIsNet, mWires, mComps, mChain, fAdd_int, fSub_int, fMul_r, fMul_l, fDiv_c, fMod_c, fPow_c, fLt_int, fLe_int, fGt_int, fGe_int, fEq_int, fNe_int, fEq_bl, fNe_bl, fAdd_tup, fAdd_lst, fIx_lst, fIx_tup, fIx_frz, mSl, pNone, pSome, fIsN, fIsB, gN, gT, gsN, gTs, gsNil, gsCons, gIx, mCall, mMeth, isNetD, postC, imm, imms, List.getElem?_cons_zero, List.getElem?_cons_succ, List.set_cons_zero, List.set_cons_succ, Option.bind_some, Option.bind_none, Option.map_some, Option.map_none, Option.or_some, Option.or_none, Option.none_or, List.map_cons, List.map_nil, List.all_cons, List.all_nil, Bool.and_true, Bool.true_and, Bool.and_false, Bool.false_and, if_true, if_false, reduceCtorEq, decide_true, decide_false, ne_eq, not_true_eq_false, not_false_eq_true, List.length_cons, List.length_nil, List.getElem?_nil, List.set_nil, reduceIte, Bool.false_eq_true, Int.reduceNeg, Int.reduceLT, Int.reduceLE, Int.reducePow, Nat.reducePow, Nat.reduceLT, Nat.reduceLeDiff, Nat.reduceAdd, Int.reduceToNat, and_self, Nat.zero_le, Bool.not_true, Bool.not_false, Bool.not_eq_true, zero_add_nat, hb]; rfl)]
    simp only [sIf, sSet, sRet, sNil, sNo, sApp, sAug, sAsg, sExpr, sFrz, sPar, sRev, sRetN, frz1, mOp, mVar, mC, mB, mNot, mAnd, mOr, mNeg, mIf, bNot, bAnd, bOr, bYes, mTup, mLst, aNil, aCons, nb, mFn, fLen, fList, fTuple, fMax2, fMin2, mIsT, isT_int_int, isT_int_bl, isT_bool_int, isT_bool_bl, isT_tuple_tup, isT_list_lst, mIsNet, mWires, mComps, mChain, fAdd_int, fSub_int, fMul_r, fMul_l, fDiv_c, fMod_c, fPow_c, fLt_int, fLe_int, fGt_int, fGe_int, fEq_int, fNe_int, fEq_bl, fNe_bl, fAdd_tup, fAdd_lst, fIx_lst, fIx_tup, fIx_frz, mSl, pNone, pSome, fIsN, fIsB, gN, gT, gsN, gTs, gsNil, gsCons, gIx, mCall, mMeth, isNetD, postC, imm, imms, List.getElem?_cons_zero, List.getElem?_cons_succ, List.set_cons_zero, List.set_cons_succ, Option.bind_some, Option.bind_none, Option.map_some, Option.map_none, Option.or_some, Option.or_none, Option.none_or, List.map_cons, List.map_nil, List.all_cons, List.all_nil, Bool.and_true, Bool.true_and, Bool.and_false, Bool.false_and, if_true, if_false, reduceCtorEq, decide_true, decide_false, ne_eq, not_true_eq_false, not_false_eq_true, List.length_cons, List.length_nil, List.getElem?_nil, List.set_nil, reduceIte, Bool.false_eq_true, Int.reduceNeg, Int.reduceLT, Int.reduceLE, Int.reducePow, Nat.reducePow, Nat.reduceLT, Nat.reduceLeDiff, Nat.reduceAdd, Int.reduceToNat, and_self, Nat.zero_le, Bool.not_true, Bool.not_false, Bool.not_eq_true, zero_add_nat]
end Lw

set_option maxRecDepth 100000
set_option maxHeartbeats 4000000
namespace Lw
open PySem L2 Dt
/-! == of tuples of pairs -/
theorem isDats_prs : ∀ ps : List (Int × Int), isDats (prs ps) = true
  | [] => rfl
  | p :: ps => by simp only [prs, List.map_cons, List.map_nil, isDats, isDat, Bool.true_and]; exact isDats_prs ps
def pyP (p : Int × Int) : PyData := .tuple [.int p.1, .int p.2]
theorem pys_prs : ∀ ps : List (Int × Int), pys (prs ps) = ps.map pyP
  | [] => rfl
  | p :: ps => by simp only [prs, List.map_cons, List.map_nil, pys, py, pyP]; exact congrArg _ (pys_prs ps)
theorem layAll_prs : ∀ ps : List (Int × Int), PyData.canLayAll0 (ps.map pyP) = true
  | [] => by simp [PyData.canLayAll0]
  | p :: ps => by simp [PyData.canLayAll0, PyData.canLay0, layAll_prs ps, pyP]
theorem depAll_prs : ∀ ps : List (Int × Int), PyData.depthAll (ps.map pyP) ≤ 2
  | [] => by simp [PyData.depthAll]
  | p :: ps => by
    have := depAll_prs ps
    simp only [List.map_cons, PyData.depthAll, PyData.depth, pyP]
    omega
theorem okD_tprs (ps : List (Int × Int)) : okD (.tup (prs ps)) = true := by
  have h1 := layAll_prs ps
  have h2 := depAll_prs ps
  unfold okD
  simp only [isDat, isDats_prs, py, pys_prs, Bool.true_and]
  show ((PyData.tuple (ps.map pyP)).canLay0 && decide ((PyData.tuple (ps.map pyP)).depth ≤ 64)) = true
  rw [Bool.and_eq_true]
  exact ⟨by simp only [PyData.canLay0]; exact h1, decide_eq_true (by simp only [PyData.depth]; omega)⟩
theorem okD_lprs (ps : List (Int × Int)) : okD (.lst (prs ps)) = true := by
  have h1 := layAll_prs ps
  have h2 := depAll_prs ps
  unfold okD
  simp only [isDat, isDats_prs, py, pys_prs, Bool.true_and]
  show ((PyData.list (ps.map pyP)).canLay0 && decide ((PyData.list (ps.map pyP)).depth ≤ 64)) = true
  rw [Bool.and_eq_true]
  exact ⟨by simp only [PyData.canLay0]; exact h1, decide_eq_true (by simp only [PyData.depth]; omega)⟩
theorem eqvAll_prs : ∀ ps qs : List (Int × Int), PyData.eqvAll (ps.map pyP) (qs.map pyP) = decide (ps = qs)
  | [], [] => by simp [PyData.eqvAll]
  | [], y :: ys => by simp [PyData.eqvAll]
  | x :: xs, [] => by simp [PyData.eqvAll]
  | x :: xs, y :: ys => by
    have hp : PyData.eqv (pyP x) (pyP y) = decide (x = y) := by
      obtain ⟨a, b⟩ := x
      obtain ⟨c, d⟩ := y
      simp only [pyP, PyData.eqv, PyData.eqvAll, eqv_int, Bool.and_true]
      by_cases h1 : a = c
      · by_cases h2 : b = d
        · subst h1; subst h2; simp
        · simp [h1, h2]
      · simp [h1]
    simp only [List.map_cons, PyData.eqvAll, hp, eqvAll_prs xs ys]
    by_cases h1 : x = y
    · by_cases h2 : xs = ys
      · subst h1; subst h2; simp
      · simp [h1, h2]
    · simp [h1]
theorem fEq_tprs {ps qs : List (Int × Int)} {a b : Fl} : fEq (.tup (prs ps), a) (.tup (prs qs), b) = some (.bl (decide (ps = qs)), .pure) := by
  unfold fEq; rw [okD_tprs, okD_tprs]; simp only [py, pys_prs, PyData.eqv, eqvAll_prs, Bool.and_self, if_true]
theorem fEq_lprs {ps qs : List (Int × Int)} {a b : Fl} : fEq (.lst (prs ps), a) (.lst (prs qs), b) = some (.bl (decide (ps = qs)), .pure) := by
  unfold fEq; rw [okD_lprs, okD_lprs]; simp only [py, pys_prs, PyData.eqv, eqvAll_prs, Bool.and_self, if_true]
theorem fNe_lprs {ps qs : List (Int × Int)} {a b : Fl} : fNe (.lst (prs ps), a) (.lst (prs qs), b) = some (.bl (!decide (ps = qs)), .pure) := by
  unfold fNe; rw [okD_lprs, okD_lprs]; simp only [py, pys_prs, PyData.eqv, eqvAll_prs, Bool.and_self, if_true]
theorem fNe_tprs {ps qs : List (Int × Int)} {a b : Fl} : fNe (.tup (prs ps), a) (.tup (prs qs), b) = some (.bl (!decide (ps = qs)), .pure) := by
  unfold fNe; rw [okD_tprs, okD_tprs]; simp only [py, pys_prs, PyData.eqv, eqvAll_prs, Bool.and_self, if_true]
theorem neteq_ok {w v : Int} {ps qs : List (Int × Int)} : f_Network___eq__ [.net w (.tup (prs ps)), .net v (.tup (prs qs))] = some (.bl (decide (w = v) && decide (ps = qs)), false) := by
  unfold f_Network___eq__ runF b_Network___eq__
  simp only [List.map_cons, List.map_nil, List.length_cons, List.length_nil, Nat.reduceAdd, Nat.sub_self, List.replicate, List.append_nil]
  cases hb : decide (w = v)
  · simp only [sIf, sSet, sRet, sNil, sNo, sApp, sAug, sAsg, sExpr, sFrz, sPar, sRev, sRetN, frz1, mOp, mVar, mC, mB, mNot, mAnd, mOr, mNeg, mIf, bNot, bAnd, bOr, bYes, mTup, mLst, aNil, aCons, nb, mFn, fLen, fList, fTuple, fMax2, fMin2, mIsT, isT_int_int, isT_int_bl, isT_bool_int, isT_bool_bl, isT_tuple_tup, isT_list_lst, mIsNet, mWires, mComps, mChain, fAdd_int, fSub_int, fMul_r, fMul_l, fDiv_c, fMod_c, fPow_c, fLt_int, fLe_int, fGt_int, fGe_int, fEq_int, fNe_int, fEq_bl, fNe_bl, fAdd_tup, fAdd_lst, fIx_lst, fIx_tup, fIx_frz, mSl, pNone, pSome, fIsN, fIsB, gN, gT, gsN, gTs, gsNil, gsCons, gIx, mCall, mMeth, isNetD, postC, imm, imms, List.getElem?_cons_zero, List.getElem?_cons_succ, List.set_cons_zero, List.set_cons_succ, Option.bind_some, Option.bind_none, Option.map_some, Option.map_none, Option.or_some, Option.or_none, Option.none_or, List.map_cons, List.map_nil, List.all_cons, List.all_nil, Bool.and_true, Bool.true_and, Bool.and_false, Bool.false_and, if_true, if_false, reduceCtorEq, decide_true, decide_false, ne_eq, not_true_eq_false, not_false_eq_true, List.length_cons, List.length_nil, List.getElem?_nil, List.set_nil, reduceIte, Bool.false_eq_true, Int.reduceNeg, Int.reduceLT, Int.reduceLE, Int.reducePow, Nat.reducePow, Nat.reduceLT, Nat.reduceLeDiff, Nat.reduceAdd, Int.reduceToNat, and_self, Nat.zero_le, Bool.not_true, Bool.not_false, Bool.not_eq_true, zero_add_nat, hb]
  · simp only [sIf, sSet, sRet, sNil, sNo, sApp, sAug, sAsg, sExpr, sFrz, sPar, sRev, sRetN, frz1, mOp, mVar, mC, mB, mNot, mAnd, mOr, mNeg, mIf, bNot, bAnd, bOr, bYes, mTup, mLst, aNil, aCons, nb, mFn, fLen, fList, fTuple, fMax2, fMin2, mIsT, isT_int_int, isT_int_bl, isT_bool_int, isT_bool_bl, isT_tuple_tup, isT_list_lst, mIsNet, mWires, mComps, mChain, fAdd_int, fSub_int, fMul_r, fMul_l, fDiv_c, fMod_c, fPow_c, fLt_int, fLe_int, fGt_int, fGe_int, fEq_int, fNe_int, fEq_bl, fNe_bl, fAdd_tup, fAdd_lst, fIx_lst, fIx_tup, fIx_frz, mSl, pNone, pSome, fIsN, fIsB, gN, gT, gsN, gTs, gsNil, gsCons, gIx, mCall, mMeth, isNetD, postC, imm, imms, List.getElem?_cons_zero, List.getElem?_cons_succ, List.set_cons_zero, List.set_cons_succ, Option.bind_some, Option.bind_none, Option.map_some, Option.map_none, Option.or_some, Option.or_none, Option.none_or, List.map_cons, List.map_nil, List.all_cons, List.all_nil, Bool.and_true, Bool.true_and, Bool.and_false, Bool.false_and, if_true, if_false, reduceCtorEq, decide_true, decide_false, ne_eq, not_true_eq_false, not_false_eq_true, List.length_cons, List.length_nil, List.getElem?_nil, List.set_nil, reduceIte, Bool.false_eq_true, Int.reduceNeg, Int.reduceLT, Int.reduceLE, Int.reducePow, Nat.reducePow, Nat.reduceLT, Nat.reduceLeDiff, Nat.reduceAdd, Int.reduceToNat, and_self, Nat.zero_le, Bool.not_true, Bool.not_false, Bool.not_eq_true, zero_add_nat, hb, fEq_tprs]
theorem netEq_ok {w : Int} {ps : List (Int × Int)} {a b : Fl} : fNetEq f_Network___eq__ (.net w (.tup (prs ps)), a) (.net w (.tup (prs ps)), b) = some (.bl true, .pure) := by
  unfold fNetEq
  have h := neteq_ok (w := w) (v := w) (ps := ps) (qs := ps)
  simp only [decide_true, Bool.and_self] at h
  rw [h]; rfl
/-! mirrored -/
def mirP (w : Int) (ps : List (Int × Int)) : List (Int × Int) := ps.map fun p => (w - 1 - p.2, w - 1 - p.1)
def turn (c : List Int) : List Int := c.reverse.map fun x => -x
theorem turn_len (c : List Int) : (turn c).length = c.length := by simp [turn]
theorem turn_get {c : List Int} {k : Nat} (h : k < c.length) : (turn c).getD k 0 = -c.getD (c.length - 1 - k) 0 := by
  have h2 : k < (c.reverse).length := by rw [List.length_reverse]; exact h
  have h3 : c.length - 1 - k < c.length := by omega
  unfold turn
  rw [List.getD_eq_getElem?_getD, List.getElem?_map, List.getElem?_eq_getElem h2, List.getElem_reverse, List.getD_eq_getElem?_getD, List.getElem?_eq_getElem h3]
  rfl
theorem turn_set {c : List Int} {k : Nat} {x : Int} (h : k < c.length) : turn (c.set k x) = (turn c).set (c.length - 1 - k) (-x) := by
  apply List.ext_getElem
  · simp [turn]
  · intro i h1 h2
    simp only [turn, List.length_map, List.length_reverse, List.length_set] at h1
    simp only [turn, List.getElem_map, List.getElem_reverse, List.length_set, List.getElem_set]
    by_cases e : c.length - 1 - i = k
    · rw [if_pos e.symm, if_pos (by omega)]
    · rw [if_neg (fun z => e z.symm), if_neg (by omega)]
theorem cmp1_turn {c : List Int} {p : Int × Int} (h : 0 ≤ p.1 ∧ p.1 < c.length ∧ 0 ≤ p.2 ∧ p.2 < c.length ∧ p.1 ≠ p.2) : cmp1 (turn c) ((c.length : Int) - 1 - p.2, (c.length : Int) - 1 - p.1) = turn (cmp1 c p) := by
  obtain ⟨h1, h2, h3, h4, h5⟩ := h
  have l1 : p.1.toNat < c.length := by omega
  have l2 : p.2.toNat < c.length := by omega
  have n1 : ((c.length : Int) - 1 - p.1).toNat = c.length - 1 - p.1.toNat := by omega
  have n2 : ((c.length : Int) - 1 - p.2).toNat = c.length - 1 - p.2.toNat := by omega
  have b1 : c.length - 1 - (c.length - 1 - p.1.toNat) = p.1.toNat := by omega
  have b2 : c.length - 1 - (c.length - 1 - p.2.toNat) = p.2.toNat := by omega
  have hne : c.length - 1 - p.2.toNat ≠ c.length - 1 - p.1.toNat := by omega
  unfold cmp1
  simp only [n1, n2]
  rw [turn_get (show c.length - 1 - p.2.toNat < c.length by omega), turn_get (show c.length - 1 - p.1.toNat < c.length by omega), b1, b2, turn_set (by rw [List.length_set]; exact l1), turn_set l2, List.length_set]
  generalize c.getD p.1.toNat 0 = x
  generalize c.getD p.2.toNat 0 = y
  rw [List.set_comm _ _ hne]
  have e1 : (if -x > -y then -x else -y) = -(if y < x then y else x) := by
    by_cases hxy : y < x
    · rw [if_pos hxy, if_neg (by omega)]
    · rw [if_neg hxy]; split <;> omega
  have e2 : (if -x < -y then -x else -y) = -(if y > x then y else x) := by
    by_cases hxy : y > x
    · rw [if_pos hxy, if_neg (by omega)]
    · rw [if_neg hxy]; split <;> omega
  rw [e1, e2]
theorem runL_turn : ∀ (ps : List (Int × Int)) (c : List Int) (w : Int), w = c.length → okP c.length ps → runL (mirP w ps) (turn c) = turn (runL ps c)
  | [], _, _, _, _ => rfl
  | p :: ps, c, w, hw, h => by
    subst hw
    show runL (mirP c.length ps) (cmp1 (turn c) ((c.length : Int) - 1 - p.2, (c.length : Int) - 1 - p.1)) = turn (runL ps (cmp1 c p))
    rw [cmp1_turn (h p List.mem_cons_self)]
    exact runL_turn ps (cmp1 c p) _ (by rw [cmp1_len]) (by rw [cmp1_len]; exact fun q hq => h q (List.mem_cons_of_mem _ hq))
theorem mirP_ok {w : Int} {ps : List (Int × Int)} (h : okP w ps) : okP w (mirP w ps) := fun p hp => by
  obtain ⟨q, hq, rfl⟩ := List.mem_map.mp hp
  obtain ⟨h1, h2, h3, h4, h5⟩ := h q hq
  exact ⟨by simp only []; omega, by simp only []; omega, by simp only []; omega, by simp only []; omega, by simp only []; omega⟩
theorem mirP_len {w : Int} {ps : List (Int × Int)} : (mirP w ps).length = ps.length := List.length_map _
theorem mirP_mirP (w : Int) (ps : List (Int × Int)) : mirP w (mirP w ps) = ps := by
  unfold mirP
  rw [List.map_map]
  have : ((fun p : Int × Int => (w - 1 - p.2, w - 1 - p.1)) ∘ fun p => (w - 1 - p.2, w - 1 - p.1)) = id := by
    funext p
    simp only [Function.comp, id]
    exact Prod.ext (by simp only []; omega) (by simp only []; omega)
  rw [this, List.map_id]
theorem mirP_std (w : Int) (ps : List (Int × Int)) : stdP (mirP w ps) = stdP ps := by
  unfold stdP mirP
  rw [List.all_map]
  congr 1
  funext p
  simp only [Function.comp]
  exact decide_eq_decide.mpr ⟨fun h => by omega, fun h => by omega⟩
theorem lcmir {P : Option (D × Bool)} {l : Int} : ∀ (ps : List (Int × Int)) (a b : Option (D × Bool)), lcGo (gT [2, 3]) bYes (mTup (aCons (mOp fSub (mVar 1) (mVar 3)) (aCons (mOp fSub (mVar 1) (mVar 2)) aNil))) (prs ps) [P, some (.int (l - 1), false), a, b] = some (prs (mirP l ps))
  | [], _, _ => rfl
  | p :: ps, a, b => by
    have ih := lcmir (P := P) (l := l) ps a b
    show lcGo _ _ _ (.tup [.int p.1, .int p.2] :: prs ps) _ = _
    unfold lcGo
    rw [ih]
    simp only [sIf, sSet, sRet, sNil, sNo, sApp, sAug, sAsg, sExpr, sFrz, sPar, sRev, sRetN, frz1, mOp, mVar, mC, mB, mNot, mAnd, mOr, mNeg, mIf, bNot, bAnd, bOr, bYes, mTup, mLst, aNil, aCons, nb, mFn, fLen, fList, fTuple, fMax2, fMin2, mIsT, isT_int_int, isT_int_bl, isT_bool_int, isT_bool_bl, isT_tuple_tup, isT_list_lst, mIsNet, mWires, mComps, mChain, fAdd_int, fSub_int, fMul_r, fMul_l, fDiv_c, fMod_c, fPow_c, fLt_int, fLe_int, fGt_int, fGe_int, fEq_int, fNe_int, fEq_bl, fNe_bl, fAdd_tup, fAdd_lst, fIx_lst, fIx_tup, fIx_frz, mSl, pNone, pSome, fIsN, fIsB, gN, gT, gsN, gTs, gsNil, gsCons, gIx, mCall, mMeth, isNetD, postC, imm, imms, List.getElem?_cons_zero, List.getElem?_cons_succ, List.set_cons_zero, List.set_cons_succ, Option.bind_some, Option.bind_none, Option.map_some, Option.map_none, Option.or_some, Option.or_none, Option.none_or, List.map_cons, List.map_nil, List.all_cons, List.all_nil, Bool.and_true, Bool.true_and, Bool.and_false, Bool.false_and, if_true, if_false, reduceCtorEq, decide_true, decide_false, ne_eq, not_true_eq_false, not_false_eq_true, List.length_cons, List.length_nil, List.getElem?_nil, List.set_nil, reduceIte, Bool.false_eq_true, Int.reduceNeg, Int.reduceLT, Int.reduceLE, Int.reducePow, Nat.reducePow, Nat.reduceLT, Nat.reduceLeDiff, Nat.reduceAdd, Int.reduceToNat, and_self, Nat.zero_le, Bool.not_true, Bool.not_false, Bool.not_eq_true, zero_add_nat, lim2, mirP]
theorem mirrored_ok {w : Int} {ps : List (Int × Int)} (hw : 1 ≤ w) (h : okP w ps) (hl : ps.length ≤ 100000) : f_mirrored [.net w (.tup (prs ps))] = some (.net w (.tup (prs (mirP w ps))), false) := by
  unfold f_mirrored runF b_mirrored
  simp only [List.map_cons, List.map_nil, List.length_cons, List.length_nil, Nat.reduceAdd, Nat.reduceSub, List.replicate, List.cons_append, List.nil_append]
  have hll : (prs ps).length ≤ lim := by rw [prs_len]; exact hl
  rw [seq_nx (by simp only [sIf, sSet, sRet, sNil, sNo, sApp, sAug, sAsg, sExpr, sFrz, sPar, sRev, sRetN, frz1, mOp, mVar, mC, mB, mNot, mAnd, mOr, mNeg, mIf, bNot, bAnd, bOr, bYes, mTup, mLst, aNil, aCons, nb, mFn, fLen, fList, fTuple, fMax2, fMin2, mIsT, isT_int_int, isT_int_bl, isT_bool_int, isT_bool_bl, isT_tuple_tup, isT_list_lst, mIsNet, mWires, mComps, mChain, fAdd_int, fSub_int, fMul_r, fMul_l, fDiv_c, fMod_c, fPow_c, fLt_int, fLe_int, fGt_int, fGe_int, fEq_int, fNe_int, fEq_bl, fNe_bl, fAdd_tup, fAdd_lst, fIx_lst, fIx_tup, fIx_frz, mSl, pNone, pSome, fIsN, fIsB, gN, gT, gsN, gTs, gsNil, gsCons, gIx, mCall, mMeth, isNetD, postC, imm, imms, List.getElem?_cons_zero, List.getElem?_cons_succ, List.set_cons_zero, List.set_cons_succ, Option.bind_some, Option.bind_none, Option.map_some, Option.map_none, Option.or_some, Option.or_none, Option.none_or, List.map_cons, List.map_nil, List.all_cons, List.all_nil, Bool.and_true, Bool.true_and, Bool.and_false, Bool.false_and, if_true, if_false, reduceCtorEq, decide_true, decide_false, ne_eq, not_true_eq_false, not_false_eq_true, List.length_cons, List.length_nil, List.getElem?_nil, List.set_nil, reduceIte, Bool.false_eq_true, Int.reduceNeg, Int.reduceLT, Int.reduceLE, Int.reducePow, Nat.reducePow, Nat.reduceLT, Nat.reduceLeDiff, Nat.reduceAdd, Int.reduceToNat, and_self, Nat.zero_le, Bool.not_true, Bool.not_false, Bool.not_eq_true, zero_add_nat]; rfl)]
  have e1 : mLc (iS true (mComps (mVar 0))) (gT [2, 3]) bYes (mTup (aCons (mOp fSub (mVar 1) (mVar 3)) (aCons (mOp fSub (mVar 1) (mVar 2)) aNil))) [2, 3] [some (.net w (.tup (prs ps)), false), some (.int (w - 1), false), none, none] = some (.lst (prs (mirP w ps)), .fresh) := by
    simp only [mLc, iS, sIf, sSet, sRet, sNil, sNo, sApp, sAug, sAsg, sExpr, sFrz, sPar, sRev, sRetN, frz1, mOp, mVar, mC, mB, mNot, mAnd, mOr, mNeg, mIf, bNot, bAnd, bOr, bYes, mTup, mLst, aNil, aCons, nb, mFn, fLen, fList, fTuple, fMax2, fMin2, mIsT, isT_int_int, isT_int_bl, isT_bool_int, isT_bool_bl, isT_tuple_tup, isT_list_lst, mIsNet, mWires, mComps, mChain, fAdd_int, fSub_int, fMul_r, fMul_l, fDiv_c, fMod_c, fPow_c, fLt_int, fLe_int, fGt_int, fGe_int, fEq_int, fNe_int, fEq_bl, fNe_bl, fAdd_tup, fAdd_lst, fIx_lst, fIx_tup, fIx_frz, mSl, pNone, pSome, fIsN, fIsB, gN, gT, gsN, gTs, gsNil, gsCons, gIx, mCall, mMeth, isNetD, postC, imm, imms, List.getElem?_cons_zero, List.getElem?_cons_succ, List.set_cons_zero, List.set_cons_succ, Option.bind_some, Option.bind_none, Option.map_some, Option.map_none, Option.or_some, Option.or_none, Option.none_or, List.map_cons, List.map_nil, List.all_cons, List.all_nil, Bool.and_true, Bool.true_and, Bool.and_false, Bool.false_and, if_true, if_false, reduceCtorEq, decide_true, decide_false, ne_eq, not_true_eq_false, not_false_eq_true, List.length_cons, List.length_nil, List.getElem?_nil, List.set_nil, reduceIte, Bool.false_eq_true, Int.reduceNeg, Int.reduceLT, Int.reduceLE, Int.reducePow, Nat.reducePow, Nat.reduceLT, Nat.reduceLeDiff, Nat.reduceAdd, Int.reduceToNat, and_self, Nat.zero_le, Bool.not_true, Bool.not_false, Bool.not_eq_true, zero_add_nat, wipeE, if_pos hll]
    rw [lcmir]; rfl
  have e := fNet_ok (w := w) (ps := mirP w ps) (a := .pure) (b := .fresh) hw (mirP_ok h) (by rw [mirP_len]; exact hl)
  simp only [sRet, mFn, aCons, mWires, mVar, List.getElem?_cons_succ, List.getElem?_cons_zero, Option.bind_some, e1, aNil, Option.map_some, e, Bool.false_eq_true, if_false, ne_eq, not_true_eq_false, decide_false]
theorem lcturn {P : Option (D × Bool)} : ∀ (c : List Int) (a : Option (D × Bool)), lcGo (gN 1) bYes (mNeg (mVar 1)) (iL c) [P, a] = some (iL (c.map fun x => -x))
  | [], _ => rfl
  | x :: c, a => by
    have ih := lcturn (P := P) c a
    show lcGo _ _ _ (.int x :: iL c) _ = _
    unfold lcGo
    rw [ih]
    simp only [sIf, sSet, sRet, sNil, sNo, sApp, sAug, sAsg, sExpr, sFrz, sPar, sRev, sRetN, frz1, mOp, mVar, mC, mB, mNot, mAnd, mOr, mNeg, mIf, bNot, bAnd, bOr, bYes, mTup, mLst, aNil, aCons, nb, mFn, fLen, fList, fTuple, fMax2, fMin2, mIsT, isT_int_int, isT_int_bl, isT_bool_int, isT_bool_bl, isT_tuple_tup, isT_list_lst, mIsNet, mWires, mComps, mChain, fAdd_int, fSub_int, fMul_r, fMul_l, fDiv_c, fMod_c, fPow_c, fLt_int, fLe_int, fGt_int, fGe_int, fEq_int, fNe_int, fEq_bl, fNe_bl, fAdd_tup, fAdd_lst, fIx_lst, fIx_tup, fIx_frz, mSl, pNone, pSome, fIsN, fIsB, gN, gT, gsN, gTs, gsNil, gsCons, gIx, mCall, mMeth, isNetD, postC, imm, imms, List.getElem?_cons_zero, List.getElem?_cons_succ, List.set_cons_zero, List.set_cons_succ, Option.bind_some, Option.bind_none, Option.map_some, Option.map_none, Option.or_some, Option.or_none, Option.none_or, List.map_cons, List.map_nil, List.all_cons, List.all_nil, Bool.and_true, Bool.true_and, Bool.and_false, Bool.false_and, if_true, if_false, reduceCtorEq, decide_true, decide_false, ne_eq, not_true_eq_false, not_false_eq_true, List.length_cons, List.length_nil, List.getElem?_nil, List.set_nil, reduceIte, Bool.false_eq_true, Int.reduceNeg, Int.reduceLT, Int.reduceLE, Int.reducePow, Nat.reducePow, Nat.reduceLT, Nat.reduceLeDiff, Nat.reduceAdd, Int.reduceToNat, and_self, Nat.zero_le, Bool.not_true, Bool.not_false, Bool.not_eq_true, zero_add_nat]
theorem turned_ok {c : List Int} (hl : c.length ≤ 100000) : f__law_turned [.tup (iL c)] = some (.tup (iL (turn c)), false) := by
  unfold f__law_turned runF b__law_turned
  simp only [List.map_cons, List.map_nil, List.length_cons, List.length_nil, Nat.reduceAdd, Nat.reduceSub, List.replicate, List.cons_append, List.nil_append]
  have hr : (iL c).reverse = iL c.reverse := by simp
  have hll : (iL c.reverse).length ≤ lim := by rw [List.length_map, List.length_reverse]; exact hl
  have e1 : mLc (iRv true (mVar 0)) (gN 1) bYes (mNeg (mVar 1)) [1] [some (.tup (iL c), false), none] = some (.lst (iL (turn c)), .fresh) := by
    simp only [mLc, iRv, iS, sIf, sSet, sRet, sNil, sNo, sApp, sAug, sAsg, sExpr, sFrz, sPar, sRev, sRetN, frz1, mOp, mVar, mC, mB, mNot, mAnd, mOr, mNeg, mIf, bNot, bAnd, bOr, bYes, mTup, mLst, aNil, aCons, nb, mFn, fLen, fList, fTuple, fMax2, fMin2, mIsT, isT_int_int, isT_int_bl, isT_bool_int, isT_bool_bl, isT_tuple_tup, isT_list_lst, mIsNet, mWires, mComps, mChain, fAdd_int, fSub_int, fMul_r, fMul_l, fDiv_c, fMod_c, fPow_c, fLt_int, fLe_int, fGt_int, fGe_int, fEq_int, fNe_int, fEq_bl, fNe_bl, fAdd_tup, fAdd_lst, fIx_lst, fIx_tup, fIx_frz, mSl, pNone, pSome, fIsN, fIsB, gN, gT, gsN, gTs, gsNil, gsCons, gIx, mCall, mMeth, isNetD, postC, imm, imms, List.getElem?_cons_zero, List.getElem?_cons_succ, List.set_cons_zero, List.set_cons_succ, Option.bind_some, Option.bind_none, Option.map_some, Option.map_none, Option.or_some, Option.or_none, Option.none_or, List.map_cons, List.map_nil, List.all_cons, List.all_nil, Bool.and_true, Bool.true_and, Bool.and_false, Bool.false_and, if_true, if_false, reduceCtorEq, decide_true, decide_false, ne_eq, not_true_eq_false, not_false_eq_true, List.length_cons, List.length_nil, List.getElem?_nil, List.set_nil, reduceIte, Bool.false_eq_true, Int.reduceNeg, Int.reduceLT, Int.reduceLE, Int.reducePow, Nat.reducePow, Nat.reduceLT, Nat.reduceLeDiff, Nat.reduceAdd, Int.reduceToNat, and_self, Nat.zero_le, Bool.not_true, Bool.not_false, Bool.not_eq_true, zero_add_nat, wipeE, hr, if_pos hll]
    rw [lcturn]; rfl
  simp only [sRet, mFn, aCons, e1, aNil, fTuple, Option.bind_some, Option.map_some, Bool.false_eq_true, if_false, ne_eq, not_true_eq_false, decide_false, reduceCtorEq, not_false_eq_true, decide_true]
end Lw

set_option maxRecDepth 100000
set_option maxHeartbeats 4000000
namespace Lw
open PySem L2 Dt
/-! an order of the wires -/
def natL (ms : List Nat) : List Int := ms.map fun k : Nat => (k : Int)
theorem natL_len (ms : List Nat) : (natL ms).length = ms.length := List.length_map _
theorem rngD_nat (n : Nat) : rngD 0 n = iL (natL (List.range n)) := by
  unfold rngD natL iL
  rw [List.map_map]
  apply List.map_congr_left
  intro k _
  simp
theorem at_natL {ms : List Nat} {j : Nat} (h : j < ms.length) : atI (iL (natL ms)) (j : Int) = some (.int (ms[j] : Int)) := by
  have := atI_lt (xs := iL (natL ms)) (j := j) (by rw [iL_len, natL_len]; exact h)
  rw [this]; simp [natL]
theorem natL_app (a b : List Nat) : iL (natL a) ++ iL (natL b) = iL (natL (a ++ b)) := by simp [natL]
theorem natL_take (a : List Nat) (k : Nat) : (iL (natL a)).take k = iL (natL (a.take k)) := by simp [natL]
theorem natL_drop (a : List Nat) (k : Nat) : (iL (natL a)).drop k = iL (natL (a.drop k)) := by simp [natL]
def obody : S := (sSeq (sSet 5 (mOp fMod (mVar 0) (mFn fLen (aCons (mVar 2) aNil)))) (sSeq (sSet 0 (mOp fDiv (mVar 0) (mFn fLen (aCons (mVar 2) aNil)))) (sSeq (sApp 3 (mOp fIx (mVar 2) (mVar 5))) (sSet 2 (mOp fAdd (mSl (mVar 2) pNone (pSome (mVar 5))) (mSl (mVar 2) (pSome (mOp fAdd (mVar 5) (mC (.int 1)))) pNone))))))
theorem order_ok {num : Int} {n : Nat} (h0 : 0 ≤ num) (hn : n ≤ 12) : ∃ ms : List Nat, ms.Perm (List.range n) ∧ f__law_order [.int num, .int (n : Int)] = some (.tup (iL (natL ms)), false) := by
  unfold f__law_order runF b__law_order
  simp only [List.map_cons, List.map_nil, List.length_cons, List.length_nil, Nat.reduceAdd, Nat.reduceSub, List.replicate, List.cons_append, List.nil_append]
  have hl0 : 0 ≤ lim := Nat.zero_le _
  have hr0 : (0 : Int) ≤ n ∧ (n : Int) ≤ 100000 := by omega
  have tn : ((n : Int)).toNat = n := Int.toNat_natCast n
  rw [seq_nx (by simp only [sIf, sSet, sRet, sNil, sNo, sApp, sAug, sAsg, sExpr, sFrz, sPar, sRev, sRetN, frz1, mOp, mVar, mC, mB, mNot, mAnd, mOr, mNeg, mIf, bNot, bAnd, bOr, bYes, mTup, mLst, aNil, aCons, nb, mFn, fLen, fList, fTuple, fMax2, fMin2, mIsT, isT_int_int, isT_int_bl, isT_bool_int, isT_bool_bl, isT_tuple_tup, isT_list_lst, mIsNet, mWires, mComps, mChain, fAdd_int, fSub_int, fMul_r, fMul_l, fDiv_c, fMod_c, fPow_c, fLt_int, fLe_int, fGt_int, fGe_int, fEq_int, fNe_int, fEq_bl, fNe_bl, fAdd_tup, fAdd_lst, fIx_lst, fIx_tup, fIx_frz, mSl, pNone, pSome, fIsN, fIsB, gN, gT, gsN, gTs, gsNil, gsCons, gIx, mCall, mMeth, isNetD, postC, imm, imms, List.getElem?_cons_zero, List.getElem?_cons_succ, List.set_cons_zero, List.set_cons_succ, Option.bind_some, Option.bind_none, Option.map_some, Option.map_none, Option.or_some, Option.or_none, Option.none_or, List.map_cons, List.map_nil, List.all_cons, List.all_nil, Bool.and_true, Bool.true_and, Bool.and_false, Bool.false_and, if_true, if_false, reduceCtorEq, decide_true, decide_false, ne_eq, not_true_eq_false, not_false_eq_true, List.length_cons, List.length_nil, List.getElem?_nil, List.set_nil, reduceIte, Bool.false_eq_true, Int.reduceNeg, Int.reduceLT, Int.reduceLE, Int.reducePow, Nat.reducePow, Nat.reduceLT, Nat.reduceLeDiff, Nat.reduceAdd, Int.reduceToNat, and_self, Nat.zero_le, Bool.not_true, Bool.not_false, Bool.not_eq_true, zero_add_nat, fRng1, if_pos hr0, tn, rngD_nat]; rfl)]
  rw [seq_nx (by simp only [sIf, sSet, sRet, sNil, sNo, sApp, sAug, sAsg, sExpr, sFrz, sPar, sRev, sRetN, frz1, mOp, mVar, mC, mB, mNot, mAnd, mOr, mNeg, mIf, bNot, bAnd, bOr, bYes, mTup, mLst, aNil, aCons, nb, mFn, fLen, fList, fTuple, fMax2, fMin2, mIsT, isT_int_int, isT_int_bl, isT_bool_int, isT_bool_bl, isT_tuple_tup, isT_list_lst, mIsNet, mWires, mComps, mChain, fAdd_int, fSub_int, fMul_r, fMul_l, fDiv_c, fMod_c, fPow_c, fLt_int, fLe_int, fGt_int, fGe_int, fEq_int, fNe_int, fEq_bl, fNe_bl, fAdd_tup, fAdd_lst, fIx_lst, fIx_tup, fIx_frz, mSl, pNone, pSome, fIsN, fIsB, gN, gT, gsN, gTs, gsNil, gsCons, gIx, mCall, mMeth, isNetD, postC, imm, imms, List.getElem?_cons_zero, List.getElem?_cons_succ, List.set_cons_zero, List.set_cons_succ, Option.bind_some, Option.bind_none, Option.map_some, Option.map_none, Option.or_some, Option.or_none, Option.none_or, List.map_cons, List.map_nil, List.all_cons, List.all_nil, Bool.and_true, Bool.true_and, Bool.and_false, Bool.false_and, if_true, if_false, reduceCtorEq, decide_true, decide_false, ne_eq, not_true_eq_false, not_false_eq_true, List.length_cons, List.length_nil, List.getElem?_nil, List.set_nil, reduceIte, Bool.false_eq_true, Int.reduceNeg, Int.reduceLT, Int.reduceLE, Int.reducePow, Nat.reducePow, Nat.reduceLT, Nat.reduceLeDiff, Nat.reduceAdd, Int.reduceToNat, and_self, Nat.zero_le, Bool.not_true, Bool.not_false, Bool.not_eq_true, zero_add_nat, hl0]; rfl)]
  have hr : iR1 (aCons (mVar 1) aNil) [some (.int num, false), some (.int (n : Int), false), some (.lst (iL (natL (List.range n))), true), some (.lst [], true), none, none] = some (rngD 0 n) := iR1_ok (a := .pure) (by simp only [sIf, sSet, sRet, sNil, sNo, sApp, sAug, sAsg, sExpr, sFrz, sPar, sRev, sRetN, frz1, mOp, mVar, mC, mB, mNot, mAnd, mOr, mNeg, mIf, bNot, bAnd, bOr, bYes, mTup, mLst, aNil, aCons, nb, mFn, fLen, fList, fTuple, fMax2, fMin2, mIsT, isT_int_int, isT_int_bl, isT_bool_int, isT_bool_bl, isT_tuple_tup, isT_list_lst, mIsNet, mWires, mComps, mChain, fAdd_int, fSub_int, fMul_r, fMul_l, fDiv_c, fMod_c, fPow_c, fLt_int, fLe_int, fGt_int, fGe_int, fEq_int, fNe_int, fEq_bl, fNe_bl, fAdd_tup, fAdd_lst, fIx_lst, fIx_tup, fIx_frz, mSl, pNone, pSome, fIsN, fIsB, gN, gT, gsN, gTs, gsNil, gsCons, gIx, mCall, mMeth, isNetD, postC, imm, imms, List.getElem?_cons_zero, List.getElem?_cons_succ, List.set_cons_zero, List.set_cons_succ, Option.bind_some, Option.bind_none, Option.map_some, Option.map_none, Option.or_some, Option.or_none, Option.none_or, List.map_cons, List.map_nil, List.all_cons, List.all_nil, Bool.and_true, Bool.true_and, Bool.and_false, Bool.false_and, if_true, if_false, reduceCtorEq, decide_true, decide_false, ne_eq, not_true_eq_false, not_false_eq_true, List.length_cons, List.length_nil, List.getElem?_nil, List.set_nil, reduceIte, Bool.false_eq_true, Int.reduceNeg, Int.reduceLT, Int.reduceLE, Int.reducePow, Nat.reducePow, Nat.reduceLT, Nat.reduceLeDiff, Nat.reduceAdd, Int.reduceToNat, and_self, Nat.zero_le, Bool.not_true, Bool.not_false, Bool.not_eq_true, zero_add_nat]) (by omega)
  have loop := forGo0 (g := gN 4) (m := obody)
    (fun j ρ => ∃ (num : Int) (ls os : List Nat) (a b : Option (D × Bool)), 0 ≤ num ∧ os.length = j ∧ ls.length + j = n ∧ (os ++ ls).Perm (List.range n) ∧ ρ = [some (.int num, false), some (.int (n : Int), false), some (.lst (iL (natL ls)), true), some (.lst (iL (natL os)), true), a, b])
    (ds := rngD 0 n) (ρ := [some (.int num, false), some (.int (n : Int), false), some (.lst (iL (natL (List.range n))), true), some (.lst [], true), none, none]) ⟨num, List.range n, [], none, none, h0, rfl, by simp, by simp, rfl⟩ ?_
  · obtain ⟨ρ', h1, num', ls, os, a, b, _, hol, hll, hp, rfl⟩ := loop
    have hrl : (rngD 0 n).length = n := by simp [rngD]
    rw [hrl] at hol hll
    have hls : ls = [] := List.eq_nil_of_length_eq_zero (by omega)
    subst hls
    rw [List.append_nil] at hp
    refine ⟨os, hp, ?_⟩
    unfold obody at h1
    rw [seq_nx ((for_ok hr).trans h1)]
    simp only [sIf, sSet, sRet, sNil, sNo, sApp, sAug, sAsg, sExpr, sFrz, sPar, sRev, sRetN, frz1, mOp, mVar, mC, mB, mNot, mAnd, mOr, mNeg, mIf, bNot, bAnd, bOr, bYes, mTup, mLst, aNil, aCons, nb, mFn, fLen, fList, fTuple, fMax2, fMin2, mIsT, isT_int_int, isT_int_bl, isT_bool_int, isT_bool_bl, isT_tuple_tup, isT_list_lst, mIsNet, mWires, mComps, mChain, fAdd_int, fSub_int, fMul_r, fMul_l, fDiv_c, fMod_c, fPow_c, fLt_int, fLe_int, fGt_int, fGe_int, fEq_int, fNe_int, fEq_bl, fNe_bl, fAdd_tup, fAdd_lst, fIx_lst, fIx_tup, fIx_frz, mSl, pNone, pSome, fIsN, fIsB, gN, gT, gsN, gTs, gsNil, gsCons, gIx, mCall, mMeth, isNetD, postC, imm, imms, List.getElem?_cons_zero, List.getElem?_cons_succ, List.set_cons_zero, List.set_cons_succ, Option.bind_some, Option.bind_none, Option.map_some, Option.map_none, Option.or_some, Option.or_none, Option.none_or, List.map_cons, List.map_nil, List.all_cons, List.all_nil, Bool.and_true, Bool.true_and, Bool.and_false, Bool.false_and, if_true, if_false, reduceCtorEq, decide_true, decide_false, ne_eq, not_true_eq_false, not_false_eq_true, List.length_cons, List.length_nil, List.getElem?_nil, List.set_nil, reduceIte, Bool.false_eq_true, Int.reduceNeg, Int.reduceLT, Int.reduceLE, Int.reducePow, Nat.reducePow, Nat.reduceLT, Nat.reduceLeDiff, Nat.reduceAdd, Int.reduceToNat, and_self, Nat.zero_le, Bool.not_true, Bool.not_false, Bool.not_eq_true, zero_add_nat]
  · rintro j d ρ hd ⟨num, ls, os, a, b, hnum, hol, hll, hp, rfl⟩
    obtain ⟨hj, rfl⟩ := rng_get hd
    have lpos : (0 : Int) < (ls.length : Int) := by omega
    have m0 := Int.emod_nonneg num (Int.ne_of_gt lpos)
    have m1 := Int.emod_lt_of_pos num lpos
    have d0 := Int.ediv_nonneg hnum (Int.le_of_lt lpos)
    obtain ⟨p, hpe⟩ : ∃ p : Nat, num % (ls.length : Int) = (p : Int) := ⟨(num % (ls.length : Int)).toNat, by omega⟩
    have hpl : p < ls.length := by omega
    have e1 := at_natL hpl
    have dv : (0 : Int) < (ls.length : Int) ∧ (ls.length : Int) < 1073741824 := by omega
    have hol2 : (iL (natL os)).length < lim := by rw [iL_len, natL_len]; unfold lim; omega
    have c1 : cutD (iL (natL ls)) none (some (p : Int)) = iL (natL (ls.take p)) := by rw [cut_to, natL_take]
    have c2 : cutD (iL (natL ls)) (some ((p : Int) + 1)) none = iL (natL (ls.drop (p + 1))) := by
      rw [show ((p : Int) + 1) = ((p + 1 : Nat) : Int) by omega, cut_from (by rw [iL_len, natL_len]; omega), natL_drop]
    have ll2 : (iL (natL (ls.take p))).length + (iL (natL (ls.drop (p + 1)))).length ≤ lim := by rw [iL_len, natL_len, iL_len, natL_len, List.length_take, List.length_drop]; unfold lim; omega
    have oa : iL (natL os) ++ [D.int (ls[p] : Int)] = iL (natL (os ++ [ls[p]])) := by simp [natL]
    refine ⟨[some (.int num, false), some (.int (n : Int), false), some (.lst (iL (natL ls)), true), some (.lst (iL (natL os)), true), some (.int (0 + (j : Int)), false), b], [some (.int (num / (ls.length : Int)), false), some (.int (n : Int), false), some (.lst (iL (natL (ls.take p ++ ls.drop (p + 1)))), true), some (.lst (iL (natL (os ++ [ls[p]]))), true), some (.int (0 + (j : Int)), false), some (.int (p : Int), false)], by simp only [gN, List.set_cons_succ, List.set_cons_zero], ?_, num / (ls.length : Int), ls.take p ++ ls.drop (p + 1), os ++ [ls[p]], _, _, d0, by simp [hol], by rw [List.length_append, List.length_take, List.length_drop]; omega, ?_, rfl⟩
    · unfold obody
      rw [seq_nx (by simp only [sIf, sSet, sRet, sNil, sNo, sApp, sAug, sAsg, sExpr, sFrz, sPar, sRev, sRetN, frz1, mOp, mVar, mC, mB, mNot, mAnd, mOr, mNeg, mIf, bNot, bAnd, bOr, bYes, mTup, mLst, aNil, aCons, nb, mFn, fLen, fList, fTuple, fMax2, fMin2, mIsT, isT_int_int, isT_int_bl, isT_bool_int, isT_bool_bl, isT_tuple_tup, isT_list_lst, mIsNet, mWires, mComps, mChain, fAdd_int, fSub_int, fMul_r, fMul_l, fDiv_c, fMod_c, fPow_c, fLt_int, fLe_int, fGt_int, fGe_int, fEq_int, fNe_int, fEq_bl, fNe_bl, fAdd_tup, fAdd_lst, fIx_lst, fIx_tup, fIx_frz, mSl, pNone, pSome, fIsN, fIsB, gN, gT, gsN, gTs, gsNil, gsCons, gIx, mCall, mMeth, isNetD, postC, imm, imms, List.getElem?_cons_zero, List.getElem?_cons_succ, List.set_cons_zero, List.set_cons_succ, Option.bind_some, Option.bind_none, Option.map_some, Option.map_none, Option.or_some, Option.or_none, Option.none_or, List.map_cons, List.map_nil, List.all_cons, List.all_nil, Bool.and_true, Bool.true_and, Bool.and_false, Bool.false_and, if_true, if_false, reduceCtorEq, decide_true, decide_false, ne_eq, not_true_eq_false, not_false_eq_true, List.length_cons, List.length_nil, List.getElem?_nil, List.set_nil, reduceIte, Bool.false_eq_true, Int.reduceNeg, Int.reduceLT, Int.reduceLE, Int.reducePow, Nat.reducePow, Nat.reduceLT, Nat.reduceLeDiff, Nat.reduceAdd, Int.reduceToNat, and_self, Nat.zero_le, Bool.not_true, Bool.not_false, Bool.not_eq_true, zero_add_nat, iL_len, natL_len, fMod_c lpos, hpe]; rfl)]
      rw [seq_nx (by simp only [sIf, sSet, sRet, sNil, sNo, sApp, sAug, sAsg, sExpr, sFrz, sPar, sRev, sRetN, frz1, mOp, mVar, mC, mB, mNot, mAnd, mOr, mNeg, mIf, bNot, bAnd, bOr, bYes, mTup, mLst, aNil, aCons, nb, mFn, fLen, fList, fTuple, fMax2, fMin2, mIsT, isT_int_int, isT_int_bl, isT_bool_int, isT_bool_bl, isT_tuple_tup, isT_list_lst, mIsNet, mWires, mComps, mChain, fAdd_int, fSub_int, fMul_r, fMul_l, fDiv_c, fMod_c, fPow_c, fLt_int, fLe_int, fGt_int, fGe_int, fEq_int, fNe_int, fEq_bl, fNe_bl, fAdd_tup, fAdd_lst, fIx_lst, fIx_tup, fIx_frz, mSl, pNone, pSome, fIsN, fIsB, gN, gT, gsN, gTs, gsNil, gsCons, gIx, mCall, mMeth, isNetD, postC, imm, imms, List.getElem?_cons_zero, List.getElem?_cons_succ, List.set_cons_zero, List.set_cons_succ, Option.bind_some, Option.bind_none, Option.map_some, Option.map_none, Option.or_some, Option.or_none, Option.none_or, List.map_cons, List.map_nil, List.all_cons, List.all_nil, Bool.and_true, Bool.true_and, Bool.and_false, Bool.false_and, if_true, if_false, reduceCtorEq, decide_true, decide_false, ne_eq, not_true_eq_false, not_false_eq_true, List.length_cons, List.length_nil, List.getElem?_nil, List.set_nil, reduceIte, Bool.false_eq_true, Int.reduceNeg, Int.reduceLT, Int.reduceLE, Int.reducePow, Nat.reducePow, Nat.reduceLT, Nat.reduceLeDiff, Nat.reduceAdd, Int.reduceToNat, and_self, Nat.zero_le, Bool.not_true, Bool.not_false, Bool.not_eq_true, zero_add_nat, iL_len, natL_len, fDiv_c dv]; rfl)]
      rw [seq_nx (by simp only [sIf, sSet, sRet, sNil, sNo, sApp, sAug, sAsg, sExpr, sFrz, sPar, sRev, sRetN, frz1, mOp, mVar, mC, mB, mNot, mAnd, mOr, mNeg, mIf, bNot, bAnd, bOr, bYes, mTup, mLst, aNil, aCons, nb, mFn, fLen, fList, fTuple, fMax2, fMin2, mIsT, isT_int_int, isT_int_bl, isT_bool_int, isT_bool_bl, isT_tuple_tup, isT_list_lst, mIsNet, mWires, mComps, mChain, fAdd_int, fSub_int, fMul_r, fMul_l, fDiv_c, fMod_c, fPow_c, fLt_int, fLe_int, fGt_int, fGe_int, fEq_int, fNe_int, fEq_bl, fNe_bl, fAdd_tup, fAdd_lst, fIx_lst, fIx_tup, fIx_frz, mSl, pNone, pSome, fIsN, fIsB, gN, gT, gsN, gTs, gsNil, gsCons, gIx, mCall, mMeth, isNetD, postC, imm, imms, List.getElem?_cons_zero, List.getElem?_cons_succ, List.set_cons_zero, List.set_cons_succ, Option.bind_some, Option.bind_none, Option.map_some, Option.map_none, Option.or_some, Option.or_none, Option.none_or, List.map_cons, List.map_nil, List.all_cons, List.all_nil, Bool.and_true, Bool.true_and, Bool.and_false, Bool.false_and, if_true, if_false, reduceCtorEq, decide_true, decide_false, ne_eq, not_true_eq_false, not_false_eq_true, List.length_cons, List.length_nil, List.getElem?_nil, List.set_nil, reduceIte, Bool.false_eq_true, Int.reduceNeg, Int.reduceLT, Int.reduceLE, Int.reducePow, Nat.reducePow, Nat.reduceLT, Nat.reduceLeDiff, Nat.reduceAdd, Int.reduceToNat, and_self, Nat.zero_le, Bool.not_true, Bool.not_false, Bool.not_eq_true, zero_add_nat, e1, hol2, oa]; rfl)]
      simp only [sIf, sSet, sRet, sNil, sNo, sApp, sAug, sAsg, sExpr, sFrz, sPar, sRev, sRetN, frz1, mOp, mVar, mC, mB, mNot, mAnd, mOr, mNeg, mIf, bNot, bAnd, bOr, bYes, mTup, mLst, aNil, aCons, nb, mFn, fLen, fList, fTuple, fMax2, fMin2, mIsT, isT_int_int, isT_int_bl, isT_bool_int, isT_bool_bl, isT_tuple_tup, isT_list_lst, mIsNet, mWires, mComps, mChain, fAdd_int, fSub_int, fMul_r, fMul_l, fDiv_c, fMod_c, fPow_c, fLt_int, fLe_int, fGt_int, fGe_int, fEq_int, fNe_int, fEq_bl, fNe_bl, fAdd_tup, fAdd_lst, fIx_lst, fIx_tup, fIx_frz, mSl, pNone, pSome, fIsN, fIsB, gN, gT, gsN, gTs, gsNil, gsCons, gIx, mCall, mMeth, isNetD, postC, imm, imms, List.getElem?_cons_zero, List.getElem?_cons_succ, List.set_cons_zero, List.set_cons_succ, Option.bind_some, Option.bind_none, Option.map_some, Option.map_none, Option.or_some, Option.or_none, Option.none_or, List.map_cons, List.map_nil, List.all_cons, List.all_nil, Bool.and_true, Bool.true_and, Bool.and_false, Bool.false_and, if_true, if_false, reduceCtorEq, decide_true, decide_false, ne_eq, not_true_eq_false, not_false_eq_true, List.length_cons, List.length_nil, List.getElem?_nil, List.set_nil, reduceIte, Bool.false_eq_true, Int.reduceNeg, Int.reduceLT, Int.reduceLE, Int.reducePow, Nat.reducePow, Nat.reduceLT, Nat.reduceLeDiff, Nat.reduceAdd, Int.reduceToNat, and_self, Nat.zero_le, Bool.not_true, Bool.not_false, Bool.not_eq_true, zero_add_nat, c1, c2, if_pos ll2, natL_app]
    · have hs : ls = ls.take p ++ ls[p] :: ls.drop (p + 1) := by rw [← List.drop_eq_getElem_cons hpl, List.take_append_drop]
      have q1 : (os ++ [ls[p]] ++ (ls.take p ++ ls.drop (p + 1))).Perm (os ++ ls) := by
        rw [List.append_assoc]
        refine List.Perm.append_left _ ?_
        conv => rhs; rw [hs]
        show (ls[p] :: (ls.take p ++ ls.drop (p + 1))).Perm _
        exact (List.perm_middle).symm
      exact q1.trans hp
/-! moved -/
def movL (ms : List Nat) (row : List Int) : List Int := (List.range ms.length).foldl (fun c k => c.set (ms.getD k 0) (row.getD k 0)) row
theorem movGo_len (ms : List Nat) (row : List Int) : ∀ (ks : List Nat) (c : List Int), (ks.foldl (fun c k => c.set (ms.getD k 0) (row.getD k 0)) c).length = c.length
  | [], _ => rfl
  | k :: ks, c => by rw [List.foldl_cons, movGo_len ms row ks]; exact List.length_set
theorem movL_len (ms : List Nat) (row : List Int) : (movL ms row).length = row.length := movGo_len ms row _ _
/-- a renaming of n wires -/
structure Ren (n : Nat) (ms : List Nat) : Prop where
  p : ms.Perm (List.range n)
theorem Ren.len (h : Ren n ms) : ms.length = n := by have := h.p.length_eq; rwa [List.length_range] at this
theorem Ren.nd (h : Ren n ms) : ms.Nodup := h.p.nodup_iff.mpr List.nodup_range
theorem Ren.lt (h : Ren n ms) {k : Nat} (hk : k < n) : ms.getD k 0 < n := by
  have hl := h.len
  rw [List.getD_eq_getElem?_getD, List.getElem?_eq_getElem (by omega)]
  exact List.mem_range.mp (h.p.mem_iff.mp (List.getElem_mem _))
theorem Ren.inj (h : Ren n ms) {j k : Nat} (hj : j < n) (hk : k < n) : ms.getD j 0 = ms.getD k 0 ↔ j = k := by
  have hl := h.len
  rw [List.getD_eq_getElem?_getD, List.getElem?_eq_getElem (show j < ms.length by omega), List.getD_eq_getElem?_getD, List.getElem?_eq_getElem (show k < ms.length by omega)]
  exact List.getElem_inj h.nd
theorem Ren.sur (h : Ren n ms) {i : Nat} (hi : i < n) : ∃ k, k < n ∧ ms.getD k 0 = i := by
  obtain ⟨k, hk, e⟩ := List.getElem_of_mem (h.p.mem_iff.mpr (List.mem_range.mpr hi))
  have hl := h.len
  exact ⟨k, by omega, by rw [List.getD_eq_getElem?_getD, List.getElem?_eq_getElem hk]; exact e⟩
theorem getD_set {c : List Int} {i j : Nat} {x : Int} (hi : i < c.length) : (c.set i x).getD j 0 = if i = j then x else c.getD j 0 := by
  rw [List.getD_eq_getElem?_getD, List.getD_eq_getElem?_getD, List.getElem?_set]
  by_cases h : i = j
  · subst h; simp [hi]
  · simp [h]
theorem movGo_get {n : Nat} {ms : List Nat} {row : List Int} (h : Ren n ms) : ∀ (ks : List Nat) (c : List Int), c.length = n → (∀ k ∈ ks, k < n) → ∀ j, j < n → (ks.foldl (fun c k => c.set (ms.getD k 0) (row.getD k 0)) c).getD (ms.getD j 0) 0 = if j ∈ ks then row.getD j 0 else c.getD (ms.getD j 0) 0
  | [], c, _, _, j, _ => by simp
  | k :: ks, c, hc, hk, j, hj => by
    have hkn := hk k List.mem_cons_self
    have hlt := h.lt hkn
    rw [List.foldl_cons, movGo_get h ks _ (by rw [List.length_set]; exact hc) (fun k hk' => hk k (List.mem_cons_of_mem _ hk')) j hj, getD_set (by omega)]
    have hi := h.inj hkn hj
    by_cases h1 : j ∈ ks
    · rw [if_pos h1, if_pos (List.mem_cons_of_mem _ h1)]
    · rw [if_neg h1]
      by_cases h2 : k = j
      · subst h2; rw [if_pos rfl, if_pos List.mem_cons_self]
      · rw [if_neg (fun z => h2 (hi.mp z)), if_neg (by rw [List.mem_cons, not_or]; exact ⟨fun z => h2 z.symm, h1⟩)]
theorem movL_get {n : Nat} {ms : List Nat} {row : List Int} (h : Ren n ms) (hr : row.length = n) {j : Nat} (hj : j < n) : (movL ms row).getD (ms.getD j 0) 0 = row.getD j 0 := by
  unfold movL
  rw [movGo_get h _ row hr (fun k hk => by have := List.mem_range.mp hk; rw [h.len] at this; exact this) j hj, if_pos (by rw [List.mem_range, h.len]; exact hj)]
theorem eq_of_ren {n : Nat} {ms : List Nat} {a b : List Int} (h : Ren n ms) (ha : a.length = n) (hb : b.length = n) (e : ∀ j, j < n → a.getD (ms.getD j 0) 0 = b.getD (ms.getD j 0) 0) : a = b := by
  apply List.ext_getElem (by omega)
  intro i h1 h2
  obtain ⟨k, hk, hki⟩ := h.sur (show i < n by omega)
  have := e k hk
  rw [hki] at this
  rw [List.getD_eq_getElem?_getD, List.getD_eq_getElem?_getD, List.getElem?_eq_getElem h1, List.getElem?_eq_getElem h2] at this
  exact this
def renP (ms : List Nat) (ps : List (Int × Int)) : List (Int × Int) := ps.map fun p => ((ms.getD p.1.toNat 0 : Nat), (ms.getD p.2.toNat 0 : Nat))
theorem renP_len {ms : List Nat} {ps : List (Int × Int)} : (renP ms ps).length = ps.length := List.length_map _
theorem renP_ok {n : Nat} {ms : List Nat} {ps : List (Int × Int)} (h : Ren n ms) (ho : okP n ps) : okP n (renP ms ps) := fun p hp => by
  obtain ⟨q, hq, rfl⟩ := List.mem_map.mp hp
  obtain ⟨h1, h2, h3, h4, h5⟩ := ho q hq
  have a := h.lt (show q.1.toNat < n by omega)
  have b := h.lt (show q.2.toNat < n by omega)
  have c := h.inj (show q.1.toNat < n by omega) (show q.2.toNat < n by omega)
  refine ⟨by simp only []; omega, by simp only []; omega, by simp only []; omega, by simp only []; omega, ?_⟩
  intro z
  have := c.mp (by simp only [] at z; omega)
  omega
theorem cmp1_mov {n : Nat} {ms : List Nat} {c : List Int} {p : Int × Int} (h : Ren n ms) (hc : c.length = n) (ho : 0 ≤ p.1 ∧ p.1 < n ∧ 0 ≤ p.2 ∧ p.2 < n ∧ p.1 ≠ p.2) : cmp1 (movL ms c) ((ms.getD p.1.toNat 0 : Nat), (ms.getD p.2.toNat 0 : Nat)) = movL ms (cmp1 c p) := by
  obtain ⟨h1, h2, h3, h4, h5⟩ := ho
  have l1 : p.1.toNat < n := by omega
  have l2 : p.2.toNat < n := by omega
  have ml := movL_len ms c
  have q1 := h.lt l1
  have q2 := h.lt l2
  refine eq_of_ren h (by rw [cmp1_len]; omega) (by rw [movL_len, cmp1_len]; exact hc) fun j hj => ?_
  rw [movL_get h (by rw [cmp1_len]; exact hc) hj]
  unfold cmp1
  simp only [Int.toNat_natCast]
  rw [getD_set (by rw [List.length_set]; omega), getD_set (by omega), getD_set (by rw [List.length_set]; omega), getD_set (by omega), movL_get h hc l1, movL_get h hc l2, movL_get h hc hj]
  have i1 := h.inj l1 hj
  have i2 := h.inj l2 hj
  by_cases e1 : p.1.toNat = j
  · rw [if_pos (i1.mpr e1), if_pos e1]
  · rw [if_neg (fun z => e1 (i1.mp z)), if_neg e1]
    by_cases e2 : p.2.toNat = j
    · rw [if_pos (i2.mpr e2), if_pos e2]
    · rw [if_neg (fun z => e2 (i2.mp z)), if_neg e2]
theorem runL_mov {n : Nat} {ms : List Nat} (h : Ren n ms) : ∀ (ps : List (Int × Int)) (c : List Int), c.length = n → okP n ps → runL (renP ms ps) (movL ms c) = movL ms (runL ps c)
  | [], _, _, _ => rfl
  | p :: ps, c, hc, ho => by
    show runL (renP ms ps) (cmp1 (movL ms c) ((ms.getD p.1.toNat 0 : Nat), (ms.getD p.2.toNat 0 : Nat))) = movL ms (runL ps (cmp1 c p))
    rw [cmp1_mov h hc (ho p List.mem_cons_self)]
    exact runL_mov h ps (cmp1 c p) (by rw [cmp1_len]; exact hc) (fun q hq => ho q (List.mem_cons_of_mem _ hq))
theorem at_natD {ms : List Nat} {i : Int} (h0 : 0 ≤ i) (h : i.toNat < ms.length) : atI (iL (natL ms)) i = some (.int ((ms.getD i.toNat 0 : Nat) : Int)) := by
  obtain ⟨j, rfl⟩ : ∃ j : Nat, i = (j : Int) := ⟨i.toNat, by omega⟩
  rw [Int.toNat_natCast] at h ⊢
  rw [at_natL h, List.getD_eq_getElem?_getD, List.getElem?_eq_getElem h]; rfl
theorem rF {n : Nat} {m : S} {ds : List D} {d : D} {f : Bool} (h : m (ds.map (fun d => some (d, false)) ++ List.replicate (n - ds.length) none) = some (.rt d f)) : runF n m ds = some (d, f) := by unfold runF; rw [h]
theorem moved_ok {n : Nat} {ms : List Nat} {row : List Int} (h : Ren n ms) (hr : row.length = n) (hn : n ≤ 1000) : f__law_moved [.tup (iL (natL ms)), .tup (iL row)] = some (.tup (iL (movL ms row)), false) := by
  unfold f__law_moved
  refine rF ?_
  unfold b__law_moved
  simp only [List.map_cons, List.map_nil, List.length_cons, List.length_nil, Nat.reduceAdd, Nat.reduceSub, List.replicate, List.cons_append, List.nil_append]
  rw [seq_nx (by simp only [sIf, sSet, sRet, sNil, sNo, sApp, sAug, sAsg, sExpr, sFrz, sPar, sRev, sRetN, frz1, mOp, mVar, mC, mB, mNot, mAnd, mOr, mNeg, mIf, bNot, bAnd, bOr, bYes, mTup, mLst, aNil, aCons, nb, mFn, fLen, fList, fTuple, fMax2, fMin2, mIsT, isT_int_int, isT_int_bl, isT_bool_int, isT_bool_bl, isT_tuple_tup, isT_list_lst, mIsNet, mWires, mComps, mChain, fAdd_int, fSub_int, fMul_r, fMul_l, fDiv_c, fMod_c, fPow_c, fLt_int, fLe_int, fGt_int, fGe_int, fEq_int, fNe_int, fEq_bl, fNe_bl, fAdd_tup, fAdd_lst, fIx_lst, fIx_tup, fIx_frz, mSl, pNone, pSome, fIsN, fIsB, gN, gT, gsN, gTs, gsNil, gsCons, gIx, mCall, mMeth, isNetD, postC, imm, imms, List.getElem?_cons_zero, List.getElem?_cons_succ, List.set_cons_zero, List.set_cons_succ, Option.bind_some, Option.bind_none, Option.map_some, Option.map_none, Option.or_some, Option.or_none, Option.none_or, List.map_cons, List.map_nil, List.all_cons, List.all_nil, Bool.and_true, Bool.true_and, Bool.and_false, Bool.false_and, if_true, if_false, reduceCtorEq, decide_true, decide_false, ne_eq, not_true_eq_false, not_false_eq_true, List.length_cons, List.length_nil, List.getElem?_nil, List.set_nil, reduceIte, Bool.false_eq_true, Int.reduceNeg, Int.reduceLT, Int.reduceLE, Int.reducePow, Nat.reducePow, Nat.reduceLT, Nat.reduceLeDiff, Nat.reduceAdd, Int.reduceToNat, and_self, Nat.zero_le, Bool.not_true, Bool.not_false, Bool.not_eq_true, zero_add_nat]; rfl)]
  have hl := h.len
  have hi : iR1 (aCons (mFn fLen (aCons (mVar 0) aNil)) aNil) [some (.tup (iL (natL ms)), false), some (.tup (iL row), false), some (.lst (iL row), true), none] = some (rngD 0 ms.length) := iR1_ok (a := .pure) (by simp only [sIf, sSet, sRet, sNil, sNo, sApp, sAug, sAsg, sExpr, sFrz, sPar, sRev, sRetN, frz1, mOp, mVar, mC, mB, mNot, mAnd, mOr, mNeg, mIf, bNot, bAnd, bOr, bYes, mTup, mLst, aNil, aCons, nb, mFn, fLen, fList, fTuple, fMax2, fMin2, mIsT, isT_int_int, isT_int_bl, isT_bool_int, isT_bool_bl, isT_tuple_tup, isT_list_lst, mIsNet, mWires, mComps, mChain, fAdd_int, fSub_int, fMul_r, fMul_l, fDiv_c, fMod_c, fPow_c, fLt_int, fLe_int, fGt_int, fGe_int, fEq_int, fNe_int, fEq_bl, fNe_bl, fAdd_tup, fAdd_lst, fIx_lst, fIx_tup, fIx_frz, mSl, pNone, pSome, fIsN, fIsB, gN, gT, gsN, gTs, gsNil, gsCons, gIx, mCall, mMeth, isNetD, postC, imm, imms, List.getElem?_cons_zero, List.getElem?_cons_succ, List.set_cons_zero, List.set_cons_succ, Option.bind_some, Option.bind_none, Option.map_some, Option.map_none, Option.or_some, Option.or_none, Option.none_or, List.map_cons, List.map_nil, List.all_cons, List.all_nil, Bool.and_true, Bool.true_and, Bool.and_false, Bool.false_and, if_true, if_false, reduceCtorEq, decide_true, decide_false, ne_eq, not_true_eq_false, not_false_eq_true, List.length_cons, List.length_nil, List.getElem?_nil, List.set_nil, reduceIte, Bool.false_eq_true, Int.reduceNeg, Int.reduceLT, Int.reduceLE, Int.reducePow, Nat.reducePow, Nat.reduceLT, Nat.reduceLeDiff, Nat.reduceAdd, Int.reduceToNat, and_self, Nat.zero_le, Bool.not_true, Bool.not_false, Bool.not_eq_true, zero_add_nat, iL_len, natL_len]) (by omega)
  have loop := forGo0 (g := gN 3) (m := sAsg (mOp fIx (mVar 1) (mVar 3)) (gIx 2 (mOp fIx (mVar 0) (mVar 3))))
    (fun j ρ => ∃ a, ρ = [some (.tup (iL (natL ms)), false), some (.tup (iL row), false), some (.lst (iL ((List.range j).foldl (fun c k => c.set (ms.getD k 0) (row.getD k 0)) row)), true), a])
    (ds := rngD 0 ms.length) (ρ := [some (.tup (iL (natL ms)), false), some (.tup (iL row), false), some (.lst (iL row), true), none]) ⟨none, rfl⟩ ?_
  · obtain ⟨ρ', h1, a, rfl⟩ := loop
    have hrl : (rngD 0 ms.length).length = ms.length := by simp [rngD]
    rw [hrl] at h1
    rw [seq_nx ((for_ok hi).trans h1)]
    simp only [sIf, sSet, sRet, sNil, sNo, sApp, sAug, sAsg, sExpr, sFrz, sPar, sRev, sRetN, frz1, mOp, mVar, mC, mB, mNot, mAnd, mOr, mNeg, mIf, bNot, bAnd, bOr, bYes, mTup, mLst, aNil, aCons, nb, mFn, fLen, fList, fTuple, fMax2, fMin2, mIsT, isT_int_int, isT_int_bl, isT_bool_int, isT_bool_bl, isT_tuple_tup, isT_list_lst, mIsNet, mWires, mComps, mChain, fAdd_int, fSub_int, fMul_r, fMul_l, fDiv_c, fMod_c, fPow_c, fLt_int, fLe_int, fGt_int, fGe_int, fEq_int, fNe_int, fEq_bl, fNe_bl, fAdd_tup, fAdd_lst, fIx_lst, fIx_tup, fIx_frz, mSl, pNone, pSome, fIsN, fIsB, gN, gT, gsN, gTs, gsNil, gsCons, gIx, mCall, mMeth, isNetD, postC, imm, imms, List.getElem?_cons_zero, List.getElem?_cons_succ, List.set_cons_zero, List.set_cons_succ, Option.bind_some, Option.bind_none, Option.map_some, Option.map_none, Option.or_some, Option.or_none, Option.none_or, List.map_cons, List.map_nil, List.all_cons, List.all_nil, Bool.and_true, Bool.true_and, Bool.and_false, Bool.false_and, if_true, if_false, reduceCtorEq, decide_true, decide_false, ne_eq, not_true_eq_false, not_false_eq_true, List.length_cons, List.length_nil, List.getElem?_nil, List.set_nil, reduceIte, Bool.false_eq_true, Int.reduceNeg, Int.reduceLT, Int.reduceLE, Int.reducePow, Nat.reducePow, Nat.reduceLT, Nat.reduceLeDiff, Nat.reduceAdd, Int.reduceToNat, and_self, Nat.zero_le, Bool.not_true, Bool.not_false, Bool.not_eq_true, zero_add_nat, movL]
  · rintro j d ρ hd ⟨a, rfl⟩
    obtain ⟨hj, rfl⟩ := rng_get hd
    rw [Int.zero_add]
    have a1 := at_natD (ms := ms) (i := (j : Int)) (by omega) (by omega)
    have a2 := at_in (c := row) (i := (j : Int)) (by omega) (by omega)
    rw [Int.toNat_natCast] at a1 a2
    have hlt := h.lt (show j < n by omega)
    have hgl := movGo_len ms row (List.range j) row
    refine ⟨[some (.tup (iL (natL ms)), false), some (.tup (iL row), false), some (.lst (iL ((List.range j).foldl (fun c k => c.set (ms.getD k 0) (row.getD k 0)) row)), true), some (.int (j : Int), false)], [some (.tup (iL (natL ms)), false), some (.tup (iL row), false), some (.lst (iL ((List.range (j + 1)).foldl (fun c k => c.set (ms.getD k 0) (row.getD k 0)) row)), true), some (.int (j : Int), false)], by simp only [gN, List.set_cons_succ, List.set_cons_zero], ?_, _, rfl⟩
    have ix : ixN (iL ((List.range j).foldl (fun c k => c.set (ms.getD k 0) (row.getD k 0)) row)).length ((ms.getD j 0 : Nat) : Int) = some (ms.getD j 0) := by
      have := ixN_in (n := (iL ((List.range j).foldl (fun c k => c.set (ms.getD k 0) (row.getD k 0)) row)).length) (i := ((ms.getD j 0 : Nat) : Int)) (by omega) (by rw [iL_len, hgl]; omega)
      rwa [Int.toNat_natCast] at this
    rw [List.range_succ, List.foldl_append]
    simp only [sIf, sSet, sRet, sNil, sNo, sApp, sAug, sAsg, sExpr, sFrz, sPar, sRev, sRetN, frz1, mOp, mVar, mC, mB, mNot, mAnd, mOr, mNeg, mIf, bNot, bAnd, bOr, bYes, mTup, mLst, aNil, aCons, nb, mFn, fLen, fList, fTuple, fMax2, fMin2, mIsT, isT_int_int, isT_int_bl, isT_bool_int, isT_bool_bl, isT_tuple_tup, isT_list_lst, mIsNet, mWires, mComps, mChain, fAdd_int, fSub_int, fMul_r, fMul_l, fDiv_c, fMod_c, fPow_c, fLt_int, fLe_int, fGt_int, fGe_int, fEq_int, fNe_int, fEq_bl, fNe_bl, fAdd_tup, fAdd_lst, fIx_lst, fIx_tup, fIx_frz, mSl, pNone, pSome, fIsN, fIsB, gN, gT, gsN, gTs, gsNil, gsCons, gIx, mCall, mMeth, isNetD, postC, imm, imms, List.getElem?_cons_zero, List.getElem?_cons_succ, List.set_cons_zero, List.set_cons_succ, Option.bind_some, Option.bind_none, Option.map_some, Option.map_none, Option.or_some, Option.or_none, Option.none_or, List.map_cons, List.map_nil, List.all_cons, List.all_nil, Bool.and_true, Bool.true_and, Bool.and_false, Bool.false_and, if_true, if_false, reduceCtorEq, decide_true, decide_false, ne_eq, not_true_eq_false, not_false_eq_true, List.length_cons, List.length_nil, List.getElem?_nil, List.set_nil, reduceIte, Bool.false_eq_true, Int.reduceNeg, Int.reduceLT, Int.reduceLE, Int.reducePow, Nat.reducePow, Nat.reduceLT, Nat.reduceLeDiff, Nat.reduceAdd, Int.reduceToNat, and_self, Nat.zero_le, Bool.not_true, Bool.not_false, Bool.not_eq_true, zero_add_nat, a1, a2, ix, iL_set, List.foldl_cons, List.foldl_nil]
/-! renamed -/
def renI (nm : List Int) (ps : List (Int × Int)) : List (Int × Int) := ps.map fun p => (nm.getD p.1.toNat 0, nm.getD p.2.toNat 0)
theorem renI_len {nm : List Int} {ps : List (Int × Int)} : (renI nm ps).length = ps.length := List.length_map _
theorem natL_getD (ms : List Nat) (k : Nat) : (natL ms).getD k 0 = ((ms.getD k 0 : Nat) : Int) := by
  unfold natL
  rw [List.getD_eq_getElem?_getD, List.getD_eq_getElem?_getD, List.getElem?_map]
  cases ms[k]? <;> rfl
theorem renI_natL (ms : List Nat) (ps : List (Int × Int)) : renI (natL ms) ps = renP ms ps := by
  unfold renI renP
  simp only [natL_getD]
theorem lcren {P : Option (D × Bool)} {nm : List Int} : ∀ (ps : List (Int × Int)) (a b : Option (D × Bool)), okP nm.length ps → lcGo (gT [2, 3]) bYes (mTup (aCons (mOp fIx (mVar 1) (mVar 2)) (aCons (mOp fIx (mVar 1) (mVar 3)) aNil))) (prs ps) [P, some (.tup (iL nm), false), a, b] = some (prs (renI nm ps))
  | [], _, _, _ => rfl
  | p :: ps, a, b, h => by
    obtain ⟨h1, h2, h3, h4, h5⟩ := h p List.mem_cons_self
    have ih := lcren (P := P) (nm := nm) ps a b (fun q hq => h q (List.mem_cons_of_mem _ hq))
    have e1 := at_in h1 h2
    have e2 := at_in h3 h4
    show lcGo _ _ _ (.tup [.int p.1, .int p.2] :: prs ps) _ = _
    unfold lcGo
    rw [ih]
    simp only [sIf, sSet, sRet, sNil, sNo, sApp, sAug, sAsg, sExpr, sFrz, sPar, sRev, sRetN, frz1, mOp, mVar, mC, mB, mNot, mAnd, mOr, mNeg, mIf, bNot, bAnd, bOr, bYes, mTup, mLst, aNil, aCons, nb, mFn, fLen, fList, fTuple, fMax2, fMin2, mIsT, isT_int_int, isT_int_bl, isT_bool_int, isT_bool_bl, isT_tuple_tup, isT_list_lst, mIsNet, mWires, mComps, mChain, fAdd_int, fSub_int, fMul_r, fMul_l, fDiv_c, fMod_c, fPow_c, fLt_int, fLe_int, fGt_int, fGe_int, fEq_int, fNe_int, fEq_bl, fNe_bl, fAdd_tup, fAdd_lst, fIx_lst, fIx_tup, fIx_frz, mSl, pNone, pSome, fIsN, fIsB, gN, gT, gsN, gTs, gsNil, gsCons, gIx, mCall, mMeth, isNetD, postC, imm, imms, List.getElem?_cons_zero, List.getElem?_cons_succ, List.set_cons_zero, List.set_cons_succ, Option.bind_some, Option.bind_none, Option.map_some, Option.map_none, Option.or_some, Option.or_none, Option.none_or, List.map_cons, List.map_nil, List.all_cons, List.all_nil, Bool.and_true, Bool.true_and, Bool.and_false, Bool.false_and, if_true, if_false, reduceCtorEq, decide_true, decide_false, ne_eq, not_true_eq_false, not_false_eq_true, List.length_cons, List.length_nil, List.getElem?_nil, List.set_nil, reduceIte, Bool.false_eq_true, Int.reduceNeg, Int.reduceLT, Int.reduceLE, Int.reducePow, Nat.reducePow, Nat.reduceLT, Nat.reduceLeDiff, Nat.reduceAdd, Int.reduceToNat, and_self, Nat.zero_le, Bool.not_true, Bool.not_false, Bool.not_eq_true, zero_add_nat, lim2, renI, e1, e2]
theorem renamed_ok {w : Int} {nm : List Int} {ps : List (Int × Int)} (hw : 1 ≤ w) (h : okP nm.length ps) (h2 : okP w (renI nm ps)) (hl : ps.length ≤ 100000) : f_renamed [.net w (.tup (prs ps)), .tup (iL nm)] = some (.net w (.tup (prs (renI nm ps))), false) := by
  unfold f_renamed
  refine rF ?_
  unfold b_renamed
  simp only [List.map_cons, List.map_nil, List.length_cons, List.length_nil, Nat.reduceAdd, Nat.reduceSub, List.replicate, List.cons_append, List.nil_append]
  have hll : (prs ps).length ≤ lim := by rw [prs_len]; exact hl
  have e1 : mLc (iS true (mComps (mVar 0))) (gT [2, 3]) bYes (mTup (aCons (mOp fIx (mVar 1) (mVar 2)) (aCons (mOp fIx (mVar 1) (mVar 3)) aNil))) [2, 3] [some (.net w (.tup (prs ps)), false), some (.tup (iL nm), false), none, none] = some (.lst (prs (renI nm ps)), .fresh) := by
    simp only [mLc, iS, sIf, sSet, sRet, sNil, sNo, sApp, sAug, sAsg, sExpr, sFrz, sPar, sRev, sRetN, frz1, mOp, mVar, mC, mB, mNot, mAnd, mOr, mNeg, mIf, bNot, bAnd, bOr, bYes, mTup, mLst, aNil, aCons, nb, mFn, fLen, fList, fTuple, fMax2, fMin2, mIsT, isT_int_int, isT_int_bl, isT_bool_int, isT_bool_bl, isT_tuple_tup, isT_list_lst, mIsNet, mWires, mComps, mChain, fAdd_int, fSub_int, fMul_r, fMul_l, fDiv_c, fMod_c, fPow_c, fLt_int, fLe_int, fGt_int, fGe_int, fEq_int, fNe_int, fEq_bl, fNe_bl, fAdd_tup, fAdd_lst, fIx_lst, fIx_tup, fIx_frz, mSl, pNone, pSome, fIsN, fIsB, gN, gT, gsN, gTs, gsNil, gsCons, gIx, mCall, mMeth, isNetD, postC, imm, imms, List.getElem?_cons_zero, List.getElem?_cons_succ, List.set_cons_zero, List.set_cons_succ, Option.bind_some, Option.bind_none, Option.map_some, Option.map_none, Option.or_some, Option.or_none, Option.none_or, List.map_cons, List.map_nil, List.all_cons, List.all_nil, Bool.and_true, Bool.true_and, Bool.and_false, Bool.false_and, if_true, if_false, reduceCtorEq, decide_true, decide_false, ne_eq, not_true_eq_false, not_false_eq_true, List.length_cons, List.length_nil, List.getElem?_nil, List.set_nil, reduceIte, Bool.false_eq_true, Int.reduceNeg, Int.reduceLT, Int.reduceLE, Int.reducePow, Nat.reducePow, Nat.reduceLT, Nat.reduceLeDiff, Nat.reduceAdd, Int.reduceToNat, and_self, Nat.zero_le, Bool.not_true, Bool.not_false, Bool.not_eq_true, zero_add_nat, wipeE, if_pos hll]
    rw [lcren _ _ _ h]; rfl
  have e := fNet_ok (w := w) (ps := renI nm ps) (a := .pure) (b := .fresh) hw h2 (by rw [renI_len]; exact hl)
  simp only [sRet, mFn, aCons, mWires, mVar, List.getElem?_cons_succ, List.getElem?_cons_zero, Option.bind_some, e1, aNil, Option.map_some, e, Bool.false_eq_true, if_false, ne_eq, not_true_eq_false, decide_false]
theorem back_ren {n : Nat} {ms : List Nat} {ps : List (Int × Int)} (h : Ren n ms) (ho : okP n ps) : renI (movL ms (natL (List.range n))) (renP ms ps) = ps := by
  have hg : ∀ {i : Int}, 0 ≤ i → i < n → (movL ms (natL (List.range n))).getD (ms.getD i.toNat 0) 0 = i := fun {i} h0 h1 => by
    rw [movL_get h (by rw [natL_len, List.length_range]) (show i.toNat < n by omega), natL_getD, List.getD_eq_getElem?_getD, List.getElem?_range (show i.toNat < n by omega)]
    show ((i.toNat : Nat) : Int) = i
    omega
  unfold renI renP
  rw [List.map_map]
  conv => rhs; rw [← List.map_id ps]
  apply List.map_congr_left
  intro p hp
  obtain ⟨h1, h2, h3, h4, h5⟩ := ho p hp
  simp only [Function.comp, Int.toNat_natCast, hg h1 h2, hg h3 h4, id]
end Lw

set_option maxRecDepth 100000
set_option maxHeartbeats 4000000
namespace Lw
open PySem L2 Dt
/-! pairs, three to a number -/
def bPairsB : S := (sSeq (sSet 5 (mLst aNil)) (sSeq (sIf (mB (mOp fEq (mVar 2) (mC (.int 1)))) (sRet (mVar 5)) sNil) (sSeq (sFor (iR1 (aCons (mOp fMod (mOp fIx (mVar 0) (mVar 1)) (mOp fAdd (mVar 3) (mC (.int 1)))) aNil)) (gN 6) (sSeq (sSet 7 (mOp fDiv (mOp fIx (mVar 0) (mOp fAdd (mOp fAdd (mVar 1) (mC (.int 1))) (mOp fDiv (mVar 6) (mC (.int 3))))) (mOp fIx (mLst (aCons (mC (.int 1)) (aCons (mC (.int 97)) (aCons (mC (.int 9409)) aNil)))) (mOp fMod (mVar 6) (mC (.int 3)))))) (sSeq (sSet 8 (mOp fMod (mVar 7) (mVar 2))) (sSeq (sSet 9 (mOp fMod (mOp fDiv (mVar 7) (mVar 2)) (mOp fSub (mVar 2) (mC (.int 1))))) (sSeq (sIf (mB (mOp fGe (mVar 9) (mVar 8))) (sSet 9 (mOp fAdd (mVar 9) (mC (.int 1)))) sNil) (sIf (bAnd (mB (mVar 4)) (mB (mOp fGt (mVar 8) (mVar 9)))) (sApp 5 (mTup (aCons (mVar 9) (aCons (mVar 8) aNil)))) (sApp 5 (mTup (aCons (mVar 8) (aCons (mVar 9) aNil)))))))))) (sRet (mVar 5)))))
def pbodyB : S := (sSeq (sSet 7 (mOp fDiv (mOp fIx (mVar 0) (mOp fAdd (mOp fAdd (mVar 1) (mC (.int 1))) (mOp fDiv (mVar 6) (mC (.int 3))))) (mOp fIx (mLst (aCons (mC (.int 1)) (aCons (mC (.int 97)) (aCons (mC (.int 9409)) aNil)))) (mOp fMod (mVar 6) (mC (.int 3)))))) (sSeq (sSet 8 (mOp fMod (mVar 7) (mVar 2))) (sSeq (sSet 9 (mOp fMod (mOp fDiv (mVar 7) (mVar 2)) (mOp fSub (mVar 2) (mC (.int 1))))) (sSeq (sIf (mB (mOp fGe (mVar 9) (mVar 8))) (sSet 9 (mOp fAdd (mVar 9) (mC (.int 1)))) sNil) (sIf (bAnd (mB (mVar 4)) (mB (mOp fGt (mVar 8) (mVar 9)))) (sApp 5 (mTup (aCons (mVar 9) (aCons (mVar 8) aNil)))) (sApp 5 (mTup (aCons (mVar 8) (aCons (mVar 9) aNil)))))))))
theorem three_at (j : Nat) : ∃ c : Int, (0 < c ∧ c < 1073741824) ∧ atI [D.int 1, D.int 97, D.int 9409] ((j : Int) % 3) = some (.int c) := by
  have h0 := Int.emod_nonneg (j : Int) (by decide : (3 : Int) ≠ 0)
  have h1 := Int.emod_lt_of_pos (j : Int) (by decide : (0 : Int) < 3)
  generalize (j : Int) % 3 = r at h0 h1
  by_cases a : r = 0
  · subst a; exact ⟨1, by decide, rfl⟩
  · by_cases b : r = 1
    · subst b; exact ⟨97, by decide, rfl⟩
    · have : r = 2 := by omega
      subst this; exact ⟨9409, by decide, rfl⟩
theorem pbodyB_ok {xs : List Int} {place w many : Int} {std : Bool} {ps : List (Int × Int)} {j : Nat} {a0 b0 c0 : Option (D × Bool)} (hx : ∀ x ∈ xs, 0 ≤ x ∧ x < 1000000) (hp : 0 ≤ place) (hl : place + 1 + (j : Int) / 3 < xs.length) (hw : 2 ≤ w) (hw2 : w ≤ 12) (hps : (prs ps).length < lim) :
    ∃ (p : Int × Int) (a b c : Option (D × Bool)), (0 ≤ p.1 ∧ p.1 < w ∧ 0 ≤ p.2 ∧ p.2 < w ∧ p.1 ≠ p.2) ∧ (std = true → p.1 < p.2) ∧
    pbodyB [some (.lst (iL xs), false), some (.int place, false), some (.int w, false), some (.int many, false), some (.bl std, false), some (.lst (prs ps), true), some (.int (0 + j), false), a0, b0, c0] = some (.nx [some (.lst (iL xs), false), some (.int place, false), some (.int w, false), some (.int many, false), some (.bl std, false), some (.lst (prs (ps ++ [p])), true), some (.int j, false), a, b, c]) := by
  obtain ⟨x, e1, hm, _⟩ := at_nn (xs := xs) (i := place + 1 + (j : Int) / 3) (by omega) hl
  obtain ⟨c, hc, e3⟩ := three_at j
  have wp : (0 : Int) < w := by omega
  have wp2 : (0 : Int) < w - 1 := by omega
  have wl : w < 1073741824 := by omega
  generalize hy : x / c = z
  have m1 := Int.emod_nonneg z (Int.ne_of_gt wp)
  have m2 := Int.emod_lt_of_pos z wp
  have m3 := Int.emod_nonneg (z / w) (Int.ne_of_gt wp2)
  have m4 := Int.emod_lt_of_pos (z / w) wp2
  have l3 : 3 ≤ lim := by decide
  unfold pbodyB
  rw [seq_nx (ρ' := [some (.lst (iL xs), false), some (.int place, false), some (.int w, false), some (.int many, false), some (.bl std, false), some (.lst (prs ps), true), some (.int j, false), some (.int z, false), b0, c0]) (by simp only [sIf, sSet, sRet, sNil, sNo, sApp, sAug, sAsg, sExpr, sFrz, sPar, sRev, sRetN, frz1, mOp, mVar, mC, mB, mNot, mAnd, mOr, mNeg, mIf, bNot, bAnd, bOr, bYes, mTup, mLst, aNil, aCons, nb, mFn, fLen, fList, fTuple, fMax2, fMin2, mIsT, isT_int_int, isT_int_bl, isT_bool_int, isT_bool_bl, isT_tuple_tup, isT_list_lst, mIsNet, mWires, mComps, mChain, fAdd_int, fSub_int, fMul_r, fMul_l, fDiv_c, fMod_c, fPow_c, fLt_int, fLe_int, fGt_int, fGe_int, fEq_int, fNe_int, fEq_bl, fNe_bl, fAdd_tup, fAdd_lst, fIx_lst, fIx_tup, fIx_frz, mSl, pNone, pSome, fIsN, fIsB, gN, gT, gsN, gTs, gsNil, gsCons, gIx, mCall, mMeth, isNetD, postC, imm, imms, List.getElem?_cons_zero, List.getElem?_cons_succ, List.set_cons_zero, List.set_cons_succ, Option.bind_some, Option.bind_none, Option.map_some, Option.map_none, Option.or_some, Option.or_none, Option.none_or, List.map_cons, List.map_nil, List.all_cons, List.all_nil, Bool.and_true, Bool.true_and, Bool.and_false, Bool.false_and, if_true, if_false, reduceCtorEq, decide_true, decide_false, ne_eq, not_true_eq_false, not_false_eq_true, List.length_cons, List.length_nil, List.getElem?_nil, List.set_nil, reduceIte, Bool.false_eq_true, Int.reduceNeg, Int.reduceLT, Int.reduceLE, Int.reducePow, Nat.reducePow, Nat.reduceLT, Nat.reduceLeDiff, Nat.reduceAdd, Int.reduceToNat, and_self, Nat.zero_le, Bool.not_true, Bool.not_false, Bool.not_eq_true, zero_add_nat, e1, e3, hc, hy, l3])]
  rw [seq_nx (by simp only [sIf, sSet, sRet, sNil, sNo, sApp, sAug, sAsg, sExpr, sFrz, sPar, sRev, sRetN, frz1, mOp, mVar, mC, mB, mNot, mAnd, mOr, mNeg, mIf, bNot, bAnd, bOr, bYes, mTup, mLst, aNil, aCons, nb, mFn, fLen, fList, fTuple, fMax2, fMin2, mIsT, isT_int_int, isT_int_bl, isT_bool_int, isT_bool_bl, isT_tuple_tup, isT_list_lst, mIsNet, mWires, mComps, mChain, fAdd_int, fSub_int, fMul_r, fMul_l, fDiv_c, fMod_c, fPow_c, fLt_int, fLe_int, fGt_int, fGe_int, fEq_int, fNe_int, fEq_bl, fNe_bl, fAdd_tup, fAdd_lst, fIx_lst, fIx_tup, fIx_frz, mSl, pNone, pSome, fIsN, fIsB, gN, gT, gsN, gTs, gsNil, gsCons, gIx, mCall, mMeth, isNetD, postC, imm, imms, List.getElem?_cons_zero, List.getElem?_cons_succ, List.set_cons_zero, List.set_cons_succ, Option.bind_some, Option.bind_none, Option.map_some, Option.map_none, Option.or_some, Option.or_none, Option.none_or, List.map_cons, List.map_nil, List.all_cons, List.all_nil, Bool.and_true, Bool.true_and, Bool.and_false, Bool.false_and, if_true, if_false, reduceCtorEq, decide_true, decide_false, ne_eq, not_true_eq_false, not_false_eq_true, List.length_cons, List.length_nil, List.getElem?_nil, List.set_nil, reduceIte, Bool.false_eq_true, Int.reduceNeg, Int.reduceLT, Int.reduceLE, Int.reducePow, Nat.reducePow, Nat.reduceLT, Nat.reduceLeDiff, Nat.reduceAdd, Int.reduceToNat, and_self, Nat.zero_le, Bool.not_true, Bool.not_false, Bool.not_eq_true, zero_add_nat, wp]; rfl), seq_nx (by simp only [sIf, sSet, sRet, sNil, sNo, sApp, sAug, sAsg, sExpr, sFrz, sPar, sRev, sRetN, frz1, mOp, mVar, mC, mB, mNot, mAnd, mOr, mNeg, mIf, bNot, bAnd, bOr, bYes, mTup, mLst, aNil, aCons, nb, mFn, fLen, fList, fTuple, fMax2, fMin2, mIsT, isT_int_int, isT_int_bl, isT_bool_int, isT_bool_bl, isT_tuple_tup, isT_list_lst, mIsNet, mWires, mComps, mChain, fAdd_int, fSub_int, fMul_r, fMul_l, fDiv_c, fMod_c, fPow_c, fLt_int, fLe_int, fGt_int, fGe_int, fEq_int, fNe_int, fEq_bl, fNe_bl, fAdd_tup, fAdd_lst, fIx_lst, fIx_tup, fIx_frz, mSl, pNone, pSome, fIsN, fIsB, gN, gT, gsN, gTs, gsNil, gsCons, gIx, mCall, mMeth, isNetD, postC, imm, imms, List.getElem?_cons_zero, List.getElem?_cons_succ, List.set_cons_zero, List.set_cons_succ, Option.bind_some, Option.bind_none, Option.map_some, Option.map_none, Option.or_some, Option.or_none, Option.none_or, List.map_cons, List.map_nil, List.all_cons, List.all_nil, Bool.and_true, Bool.true_and, Bool.and_false, Bool.false_and, if_true, if_false, reduceCtorEq, decide_true, decide_false, ne_eq, not_true_eq_false, not_false_eq_true, List.length_cons, List.length_nil, List.getElem?_nil, List.set_nil, reduceIte, Bool.false_eq_true, Int.reduceNeg, Int.reduceLT, Int.reduceLE, Int.reducePow, Nat.reducePow, Nat.reduceLT, Nat.reduceLeDiff, Nat.reduceAdd, Int.reduceToNat, and_self, Nat.zero_le, Bool.not_true, Bool.not_false, Bool.not_eq_true, zero_add_nat, wp, wp2, wl]; rfl)]
  obtain ⟨y, hy0, hy1, hy2, hh⟩ : ∃ y : Int, 0 ≤ y ∧ y < w ∧ z % w ≠ y ∧ ∀ k : S, sSeq (sIf (mB (mOp fGe (mVar 9) (mVar 8))) (sSet 9 (mOp fAdd (mVar 9) (mC (.int 1)))) sNil) k
      [some (.lst (iL xs), false), some (.int place, false), some (.int w, false), some (.int many, false), some (.bl std, false), some (.lst (prs ps), true), some (.int j, false), some (.int z, false), some (.int (z % w), false), some (.int (z / w % (w - 1)), false)] =
      k [some (.lst (iL xs), false), some (.int place, false), some (.int w, false), some (.int many, false), some (.bl std, false), some (.lst (prs ps), true), some (.int j, false), some (.int z, false), some (.int (z % w), false), some (.int y, false)] := by
    cases hb : decide (z % w ≤ z / w % (w - 1)) with
    | true =>
      have := of_decide_eq_true hb
      refine ⟨z / w % (w - 1) + 1, by omega, by omega, by omega, fun k => ?_⟩
      rw [seq_nx (by simp only [sIf, sSet, sRet, sNil, sNo, sApp, sAug, sAsg, sExpr, sFrz, sPar, sRev, sRetN, frz1, mOp, mVar, mC, mB, mNot, mAnd, mOr, mNeg, mIf, bNot, bAnd, bOr, bYes, mTup, mLst, aNil, aCons, nb, mFn, fLen, fList, fTuple, fMax2, fMin2, mIsT, isT_int_int, isT_int_bl, isT_bool_int, isT_bool_bl, isT_tuple_tup, isT_list_lst, mIsNet, mWires, mComps, mChain, fAdd_int, fSub_int, fMul_r, fMul_l, fDiv_c, fMod_c, fPow_c, fLt_int, fLe_int, fGt_int, fGe_int, fEq_int, fNe_int, fEq_bl, fNe_bl, fAdd_tup, fAdd_lst, fIx_lst, fIx_tup, fIx_frz, mSl, pNone, pSome, fIsN, fIsB, gN, gT, gsN, gTs, gsNil, gsCons, gIx, mCall, mMeth, isNetD, postC, imm, imms, List.getElem?_cons_zero, List.getElem?_cons_succ, List.set_cons_zero, List.set_cons_succ, Option.bind_some, Option.bind_none, Option.map_some, Option.map_none, Option.or_some, Option.or_none, Option.none_or, List.map_cons, List.map_nil, List.all_cons, List.all_nil, Bool.and_true, Bool.true_and, Bool.and_false, Bool.false_and, if_true, if_false, reduceCtorEq, decide_true, decide_false, ne_eq, not_true_eq_false, not_false_eq_true, List.length_cons, List.length_nil, List.getElem?_nil, List.set_nil, reduceIte, Bool.false_eq_true, Int.reduceNeg, Int.reduceLT, Int.reduceLE, Int.reducePow, Nat.reducePow, Nat.reduceLT, Nat.reduceLeDiff, Nat.reduceAdd, Int.reduceToNat, and_self, Nat.zero_le, Bool.not_true, Bool.not_false, Bool.not_eq_true, zero_add_nat, hb]; rfl)]
    | false =>
      have := of_decide_eq_false hb
      refine ⟨z / w % (w - 1), by omega, by omega, by omega, fun k => ?_⟩
      rw [seq_nx (by simp only [sIf, sSet, sRet, sNil, sNo, sApp, sAug, sAsg, sExpr, sFrz, sPar, sRev, sRetN, frz1, mOp, mVar, mC, mB, mNot, mAnd, mOr, mNeg, mIf, bNot, bAnd, bOr, bYes, mTup, mLst, aNil, aCons, nb, mFn, fLen, fList, fTuple, fMax2, fMin2, mIsT, isT_int_int, isT_int_bl, isT_bool_int, isT_bool_bl, isT_tuple_tup, isT_list_lst, mIsNet, mWires, mComps, mChain, fAdd_int, fSub_int, fMul_r, fMul_l, fDiv_c, fMod_c, fPow_c, fLt_int, fLe_int, fGt_int, fGe_int, fEq_int, fNe_int, fEq_bl, fNe_bl, fAdd_tup, fAdd_lst, fIx_lst, fIx_tup, fIx_frz, mSl, pNone, pSome, fIsN, fIsB, gN, gT, gsN, gTs, gsNil, gsCons, gIx, mCall, mMeth, isNetD, postC, imm, imms, List.getElem?_cons_zero, List.getElem?_cons_succ, List.set_cons_zero, List.set_cons_succ, Option.bind_some, Option.bind_none, Option.map_some, Option.map_none, Option.or_some, Option.or_none, Option.none_or, List.map_cons, List.map_nil, List.all_cons, List.all_nil, Bool.and_true, Bool.true_and, Bool.and_false, Bool.false_and, if_true, if_false, reduceCtorEq, decide_true, decide_false, ne_eq, not_true_eq_false, not_false_eq_true, List.length_cons, List.length_nil, List.getElem?_nil, List.set_nil, reduceIte, Bool.false_eq_true, Int.reduceNeg, Int.reduceLT, Int.reduceLE, Int.reducePow, Nat.reducePow, Nat.reduceLT, Nat.reduceLeDiff, Nat.reduceAdd, Int.reduceToNat, and_self, Nat.zero_le, Bool.not_true, Bool.not_false, Bool.not_eq_true, zero_add_nat, hb]; rfl)]
  rw [hh]
  cases hb : (std && decide (y < z % w)) with
  | true =>
    simp only [Bool.and_eq_true, decide_eq_true_eq] at hb
    obtain ⟨rfl, hlt⟩ := hb
    refine ⟨(y, z % w), some (.int z, false), some (.int (z % w), false), some (.int y, false), ⟨hy0, hy1, m1, m2, fun z => hy2 z.symm⟩, fun _ => hlt, ?_⟩
    rw [← prs_app]
    simp only [sIf, sSet, sRet, sNil, sNo, sApp, sAug, sAsg, sExpr, sFrz, sPar, sRev, sRetN, frz1, mOp, mVar, mC, mB, mNot, mAnd, mOr, mNeg, mIf, bNot, bAnd, bOr, bYes, mTup, mLst, aNil, aCons, nb, mFn, fLen, fList, fTuple, fMax2, fMin2, mIsT, isT_int_int, isT_int_bl, isT_bool_int, isT_bool_bl, isT_tuple_tup, isT_list_lst, mIsNet, mWires, mComps, mChain, fAdd_int, fSub_int, fMul_r, fMul_l, fDiv_c, fMod_c, fPow_c, fLt_int, fLe_int, fGt_int, fGe_int, fEq_int, fNe_int, fEq_bl, fNe_bl, fAdd_tup, fAdd_lst, fIx_lst, fIx_tup, fIx_frz, mSl, pNone, pSome, fIsN, fIsB, gN, gT, gsN, gTs, gsNil, gsCons, gIx, mCall, mMeth, isNetD, postC, imm, imms, List.getElem?_cons_zero, List.getElem?_cons_succ, List.set_cons_zero, List.set_cons_succ, Option.bind_some, Option.bind_none, Option.map_some, Option.map_none, Option.or_some, Option.or_none, Option.none_or, List.map_cons, List.map_nil, List.all_cons, List.all_nil, Bool.and_true, Bool.true_and, Bool.and_false, Bool.false_and, if_true, if_false, reduceCtorEq, decide_true, decide_false, ne_eq, not_true_eq_false, not_false_eq_true, List.length_cons, List.length_nil, List.getElem?_nil, List.set_nil, reduceIte, Bool.false_eq_true, Int.reduceNeg, Int.reduceLT, Int.reduceLE, Int.reducePow, Nat.reducePow, Nat.reduceLT, Nat.reduceLeDiff, Nat.reduceAdd, Int.reduceToNat, and_self, Nat.zero_le, Bool.not_true, Bool.not_false, Bool.not_eq_true, zero_add_nat, hlt, hps, lim2]
  | false =>
    refine ⟨(z % w, y), some (.int z, false), some (.int (z % w), false), some (.int y, false), ⟨m1, m2, hy0, hy1, hy2⟩, fun h => ?_, ?_⟩
    · subst h
      simp only [Bool.true_and, decide_eq_false_iff_not] at hb
      show z % w < y
      omega
    · rw [← prs_app]
      cases std with
      | false => simp only [sIf, sSet, sRet, sNil, sNo, sApp, sAug, sAsg, sExpr, sFrz, sPar, sRev, sRetN, frz1, mOp, mVar, mC, mB, mNot, mAnd, mOr, mNeg, mIf, bNot, bAnd, bOr, bYes, mTup, mLst, aNil, aCons, nb, mFn, fLen, fList, fTuple, fMax2, fMin2, mIsT, isT_int_int, isT_int_bl, isT_bool_int, isT_bool_bl, isT_tuple_tup, isT_list_lst, mIsNet, mWires, mComps, mChain, fAdd_int, fSub_int, fMul_r, fMul_l, fDiv_c, fMod_c, fPow_c, fLt_int, fLe_int, fGt_int, fGe_int, fEq_int, fNe_int, fEq_bl, fNe_bl, fAdd_tup, fAdd_lst, fIx_lst, fIx_tup, fIx_frz, mSl, pNone, pSome, fIsN, fIsB, gN, gT, gsN, gTs, gsNil, gsCons, gIx, mCall, mMeth, isNetD, postC, imm, imms, List.getElem?_cons_zero, List.getElem?_cons_succ, List.set_cons_zero, List.set_cons_succ, Option.bind_some, Option.bind_none, Option.map_some, Option.map_none, Option.or_some, Option.or_none, Option.none_or, List.map_cons, List.map_nil, List.all_cons, List.all_nil, Bool.and_true, Bool.true_and, Bool.and_false, Bool.false_and, if_true, if_false, reduceCtorEq, decide_true, decide_false, ne_eq, not_true_eq_false, not_false_eq_true, List.length_cons, List.length_nil, List.getElem?_nil, List.set_nil, reduceIte, Bool.false_eq_true, Int.reduceNeg, Int.reduceLT, Int.reduceLE, Int.reducePow, Nat.reducePow, Nat.reduceLT, Nat.reduceLeDiff, Nat.reduceAdd, Int.reduceToNat, and_self, Nat.zero_le, Bool.not_true, Bool.not_false, Bool.not_eq_true, zero_add_nat, hps, lim2]
      | true =>
        simp only [Bool.true_and] at hb
        simp only [sIf, sSet, sRet, sNil, sNo, sApp, sAug, sAsg, sExpr, sFrz, sPar, sRev, sRetN, frz1, mOp, mVar, mC, mB, mNot, mAnd, mOr, mNeg, mIf, bNot, bAnd, bOr, bYes, mTup, mLst, aNil, aCons, nb, mFn, fLen, fList, fTuple, fMax2, fMin2, mIsT, isT_int_int, isT_int_bl, isT_bool_int, isT_bool_bl, isT_tuple_tup, isT_list_lst, mIsNet, mWires, mComps, mChain, fAdd_int, fSub_int, fMul_r, fMul_l, fDiv_c, fMod_c, fPow_c, fLt_int, fLe_int, fGt_int, fGe_int, fEq_int, fNe_int, fEq_bl, fNe_bl, fAdd_tup, fAdd_lst, fIx_lst, fIx_tup, fIx_frz, mSl, pNone, pSome, fIsN, fIsB, gN, gT, gsN, gTs, gsNil, gsCons, gIx, mCall, mMeth, isNetD, postC, imm, imms, List.getElem?_cons_zero, List.getElem?_cons_succ, List.set_cons_zero, List.set_cons_succ, Option.bind_some, Option.bind_none, Option.map_some, Option.map_none, Option.or_some, Option.or_none, Option.none_or, List.map_cons, List.map_nil, List.all_cons, List.all_nil, Bool.and_true, Bool.true_and, Bool.and_false, Bool.false_and, if_true, if_false, reduceCtorEq, decide_true, decide_false, ne_eq, not_true_eq_false, not_false_eq_true, List.length_cons, List.length_nil, List.getElem?_nil, List.set_nil, reduceIte, Bool.false_eq_true, Int.reduceNeg, Int.reduceLT, Int.reduceLE, Int.reducePow, Nat.reducePow, Nat.reduceLT, Nat.reduceLeDiff, Nat.reduceAdd, Int.reduceToNat, and_self, Nat.zero_le, Bool.not_true, Bool.not_false, Bool.not_eq_true, zero_add_nat, hb, hps, lim2]
theorem pairsB_ok {F : FD} (hF : F = runF 10 bPairsB) {xs : List Int} {place w : Int} {many : Nat} {std : Bool} (hx : ∀ x ∈ xs, 0 ≤ x ∧ x < 1000000) (hp : 0 ≤ place) (hm : many ≤ 1000) (hl : place + 1 + (many : Int) / 3 < xs.length) (hw : 1 ≤ w) (hw2 : w ≤ 12) :
    ∃ ps : List (Int × Int), ps.length ≤ many ∧ okP w ps ∧ (std = true → ∀ p ∈ ps, p.1 < p.2) ∧ F [.lst (iL xs), .int place, .int w, .int many, .bl std] = some (.lst (prs ps), true) := by
  subst hF
  obtain ⟨x, e1, hmx, _⟩ := at_nn (xs := xs) (i := place) hp (by omega)
  obtain ⟨x0, x1⟩ := hx x hmx
  have mp : (0 : Int) < (many : Int) + 1 := by omega
  have hl0 : 0 ≤ lim := Nat.zero_le _
  have st : ∀ {r : D × Bool}, bPairsB [some (.lst (iL xs), false), some (.int place, false), some (.int w, false), some (.int (many : Int), false), some (.bl std, false), none, none, none, none, none] = some (.rt r.1 r.2) → runF 10 bPairsB [.lst (iL xs), .int place, .int w, .int many, .bl std] = some r := fun h => rF h
  by_cases h1 : w = 1
  · refine ⟨[], by simp, (fun p hp => by cases hp), (fun _ p hp => by cases hp), st ?_⟩
    unfold bPairsB
    rw [seq_nx (by simp only [sIf, sSet, sRet, sNil, sNo, sApp, sAug, sAsg, sExpr, sFrz, sPar, sRev, sRetN, frz1, mOp, mVar, mC, mB, mNot, mAnd, mOr, mNeg, mIf, bNot, bAnd, bOr, bYes, mTup, mLst, aNil, aCons, nb, mFn, fLen, fList, fTuple, fMax2, fMin2, mIsT, isT_int_int, isT_int_bl, isT_bool_int, isT_bool_bl, isT_tuple_tup, isT_list_lst, mIsNet, mWires, mComps, mChain, fAdd_int, fSub_int, fMul_r, fMul_l, fDiv_c, fMod_c, fPow_c, fLt_int, fLe_int, fGt_int, fGe_int, fEq_int, fNe_int, fEq_bl, fNe_bl, fAdd_tup, fAdd_lst, fIx_lst, fIx_tup, fIx_frz, mSl, pNone, pSome, fIsN, fIsB, gN, gT, gsN, gTs, gsNil, gsCons, gIx, mCall, mMeth, isNetD, postC, imm, imms, List.getElem?_cons_zero, List.getElem?_cons_succ, List.set_cons_zero, List.set_cons_succ, Option.bind_some, Option.bind_none, Option.map_some, Option.map_none, Option.or_some, Option.or_none, Option.none_or, List.map_cons, List.map_nil, List.all_cons, List.all_nil, Bool.and_true, Bool.true_and, Bool.and_false, Bool.false_and, if_true, if_false, reduceCtorEq, decide_true, decide_false, ne_eq, not_true_eq_false, not_false_eq_true, List.length_cons, List.length_nil, List.getElem?_nil, List.set_nil, reduceIte, Bool.false_eq_true, Int.reduceNeg, Int.reduceLT, Int.reduceLE, Int.reducePow, Nat.reducePow, Nat.reduceLT, Nat.reduceLeDiff, Nat.reduceAdd, Int.reduceToNat, and_self, Nat.zero_le, Bool.not_true, Bool.not_false, Bool.not_eq_true, zero_add_nat, hl0]; rfl), seq_rt (by simp only [sIf, sSet, sRet, sNil, sNo, sApp, sAug, sAsg, sExpr, sFrz, sPar, sRev, sRetN, frz1, mOp, mVar, mC, mB, mNot, mAnd, mOr, mNeg, mIf, bNot, bAnd, bOr, bYes, mTup, mLst, aNil, aCons, nb, mFn, fLen, fList, fTuple, fMax2, fMin2, mIsT, isT_int_int, isT_int_bl, isT_bool_int, isT_bool_bl, isT_tuple_tup, isT_list_lst, mIsNet, mWires, mComps, mChain, fAdd_int, fSub_int, fMul_r, fMul_l, fDiv_c, fMod_c, fPow_c, fLt_int, fLe_int, fGt_int, fGe_int, fEq_int, fNe_int, fEq_bl, fNe_bl, fAdd_tup, fAdd_lst, fIx_lst, fIx_tup, fIx_frz, mSl, pNone, pSome, fIsN, fIsB, gN, gT, gsN, gTs, gsNil, gsCons, gIx, mCall, mMeth, isNetD, postC, imm, imms, List.getElem?_cons_zero, List.getElem?_cons_succ, List.set_cons_zero, List.set_cons_succ, Option.bind_some, Option.bind_none, Option.map_some, Option.map_none, Option.or_some, Option.or_none, Option.none_or, List.map_cons, List.map_nil, List.all_cons, List.all_nil, Bool.and_true, Bool.true_and, Bool.and_false, Bool.false_and, if_true, if_false, reduceCtorEq, decide_true, decide_false, ne_eq, not_true_eq_false, not_false_eq_true, List.length_cons, List.length_nil, List.getElem?_nil, List.set_nil, reduceIte, Bool.false_eq_true, Int.reduceNeg, Int.reduceLT, Int.reduceLE, Int.reducePow, Nat.reducePow, Nat.reduceLT, Nat.reduceLeDiff, Nat.reduceAdd, Int.reduceToNat, and_self, Nat.zero_le, Bool.not_true, Bool.not_false, Bool.not_eq_true, zero_add_nat, h1]; rfl)]; rfl
  · have hb : decide (w = 1) = false := decide_eq_false h1
    have c1 := Int.emod_nonneg x (Int.ne_of_gt mp)
    have c2 := Int.emod_lt_of_pos x mp
    have cn : ((x % ((many : Int) + 1)).toNat : Int) = x % ((many : Int) + 1) := Int.toNat_of_nonneg c1
    have loop := forGo0 (g := gN 6) (m := pbodyB)
      (fun j ρ => ∃ (ps : List (Int × Int)) (o a b c : Option (D × Bool)), ps.length = j ∧ okP w ps ∧ (std = true → ∀ p ∈ ps, p.1 < p.2) ∧ ρ = [some (.lst (iL xs), false), some (.int place, false), some (.int w, false), some (.int (many : Int), false), some (.bl std, false), some (.lst (prs ps), true), o, a, b, c])
      (ds := rngD 0 (x % ((many : Int) + 1)).toNat) (ρ := [some (.lst (iL xs), false), some (.int place, false), some (.int w, false), some (.int (many : Int), false), some (.bl std, false), some (.lst [], true), none, none, none, none]) ⟨[], none, none, none, none, rfl, fun p hp => (by cases hp), fun _ p hp => (by cases hp), rfl⟩ ?_
    · obtain ⟨ρ', h1, ps, o, a, b, c, hlen, hok, hst, rfl⟩ := loop
      rw [rng_len] at hlen
      refine ⟨ps, by omega, hok, hst, st ?_⟩
      unfold pbodyB at h1
      unfold bPairsB
      have hr : iR1 (aCons (mOp fMod (mOp fIx (mVar 0) (mVar 1)) (mOp fAdd (mVar 3) (mC (.int 1)))) aNil) [some (.lst (iL xs), false), some (.int place, false), some (.int w, false), some (.int (many : Int), false), some (.bl std, false), some (.lst [], true), none, none, none, none] = some (rngD 0 (x % ((many : Int) + 1)).toNat) :=
        iR1_ok (a := .pure) (by simp only [sIf, sSet, sRet, sNil, sNo, sApp, sAug, sAsg, sExpr, sFrz, sPar, sRev, sRetN, frz1, mOp, mVar, mC, mB, mNot, mAnd, mOr, mNeg, mIf, bNot, bAnd, bOr, bYes, mTup, mLst, aNil, aCons, nb, mFn, fLen, fList, fTuple, fMax2, fMin2, mIsT, isT_int_int, isT_int_bl, isT_bool_int, isT_bool_bl, isT_tuple_tup, isT_list_lst, mIsNet, mWires, mComps, mChain, fAdd_int, fSub_int, fMul_r, fMul_l, fDiv_c, fMod_c, fPow_c, fLt_int, fLe_int, fGt_int, fGe_int, fEq_int, fNe_int, fEq_bl, fNe_bl, fAdd_tup, fAdd_lst, fIx_lst, fIx_tup, fIx_frz, mSl, pNone, pSome, fIsN, fIsB, gN, gT, gsN, gTs, gsNil, gsCons, gIx, mCall, mMeth, isNetD, postC, imm, imms, List.getElem?_cons_zero, List.getElem?_cons_succ, List.set_cons_zero, List.set_cons_succ, Option.bind_some, Option.bind_none, Option.map_some, Option.map_none, Option.or_some, Option.or_none, Option.none_or, List.map_cons, List.map_nil, List.all_cons, List.all_nil, Bool.and_true, Bool.true_and, Bool.and_false, Bool.false_and, if_true, if_false, reduceCtorEq, decide_true, decide_false, ne_eq, not_true_eq_false, not_false_eq_true, List.length_cons, List.length_nil, List.getElem?_nil, List.set_nil, reduceIte, Bool.false_eq_true, Int.reduceNeg, Int.reduceLT, Int.reduceLE, Int.reducePow, Nat.reducePow, Nat.reduceLT, Nat.reduceLeDiff, Nat.reduceAdd, Int.reduceToNat, and_self, Nat.zero_le, Bool.not_true, Bool.not_false, Bool.not_eq_true, zero_add_nat, e1, mp, cn]) (by omega)
      rw [seq_nx (by simp only [sIf, sSet, sRet, sNil, sNo, sApp, sAug, sAsg, sExpr, sFrz, sPar, sRev, sRetN, frz1, mOp, mVar, mC, mB, mNot, mAnd, mOr, mNeg, mIf, bNot, bAnd, bOr, bYes, mTup, mLst, aNil, aCons, nb, mFn, fLen, fList, fTuple, fMax2, fMin2, mIsT, isT_int_int, isT_int_bl, isT_bool_int, isT_bool_bl, isT_tuple_tup, isT_list_lst, mIsNet, mWires, mComps, mChain, fAdd_int, fSub_int, fMul_r, fMul_l, fDiv_c, fMod_c, fPow_c, fLt_int, fLe_int, fGt_int, fGe_int, fEq_int, fNe_int, fEq_bl, fNe_bl, fAdd_tup, fAdd_lst, fIx_lst, fIx_tup, fIx_frz, mSl, pNone, pSome, fIsN, fIsB, gN, gT, gsN, gTs, gsNil, gsCons, gIx, mCall, mMeth, isNetD, postC, imm, imms, List.getElem?_cons_zero, List.getElem?_cons_succ, List.set_cons_zero, List.set_cons_succ, Option.bind_some, Option.bind_none, Option.map_some, Option.map_none, Option.or_some, Option.or_none, Option.none_or, List.map_cons, List.map_nil, List.all_cons, List.all_nil, Bool.and_true, Bool.true_and, Bool.and_false, Bool.false_and, if_true, if_false, reduceCtorEq, decide_true, decide_false, ne_eq, not_true_eq_false, not_false_eq_true, List.length_cons, List.length_nil, List.getElem?_nil, List.set_nil, reduceIte, Bool.false_eq_true, Int.reduceNeg, Int.reduceLT, Int.reduceLE, Int.reducePow, Nat.reducePow, Nat.reduceLT, Nat.reduceLeDiff, Nat.reduceAdd, Int.reduceToNat, and_self, Nat.zero_le, Bool.not_true, Bool.not_false, Bool.not_eq_true, zero_add_nat, hl0]; rfl), seq_nx (by simp only [sIf, sSet, sRet, sNil, sNo, sApp, sAug, sAsg, sExpr, sFrz, sPar, sRev, sRetN, frz1, mOp, mVar, mC, mB, mNot, mAnd, mOr, mNeg, mIf, bNot, bAnd, bOr, bYes, mTup, mLst, aNil, aCons, nb, mFn, fLen, fList, fTuple, fMax2, fMin2, mIsT, isT_int_int, isT_int_bl, isT_bool_int, isT_bool_bl, isT_tuple_tup, isT_list_lst, mIsNet, mWires, mComps, mChain, fAdd_int, fSub_int, fMul_r, fMul_l, fDiv_c, fMod_c, fPow_c, fLt_int, fLe_int, fGt_int, fGe_int, fEq_int, fNe_int, fEq_bl, fNe_bl, fAdd_tup, fAdd_lst, fIx_lst, fIx_tup, fIx_frz, mSl, pNone, pSome, fIsN, fIsB, gN, gT, gsN, gTs, gsNil, gsCons, gIx, mCall, mMeth, isNetD, postC, imm, imms, List.getElem?_cons_zero, List.getElem?_cons_succ, List.set_cons_zero, List.set_cons_succ, Option.bind_some, Option.bind_none, Option.map_some, Option.map_none, Option.or_some, Option.or_none, Option.none_or, List.map_cons, List.map_nil, List.all_cons, List.all_nil, Bool.and_true, Bool.true_and, Bool.and_false, Bool.false_and, if_true, if_false, reduceCtorEq, decide_true, decide_false, ne_eq, not_true_eq_false, not_false_eq_true, List.length_cons, List.length_nil, List.getElem?_nil, List.set_nil, reduceIte, Bool.false_eq_true, Int.reduceNeg, Int.reduceLT, Int.reduceLE, Int.reducePow, Nat.reducePow, Nat.reduceLT, Nat.reduceLeDiff, Nat.reduceAdd, Int.reduceToNat, and_self, Nat.zero_le, Bool.not_true, Bool.not_false, Bool.not_eq_true, zero_add_nat, hb]; rfl), seq_nx ((for_ok hr).trans h1)]
      simp only [sIf, sSet, sRet, sNil, sNo, sApp, sAug, sAsg, sExpr, sFrz, sPar, sRev, sRetN, frz1, mOp, mVar, mC, mB, mNot, mAnd, mOr, mNeg, mIf, bNot, bAnd, bOr, bYes, mTup, mLst, aNil, aCons, nb, mFn, fLen, fList, fTuple, fMax2, fMin2, mIsT, isT_int_int, isT_int_bl, isT_bool_int, isT_bool_bl, isT_tuple_tup, isT_list_lst, mIsNet, mWires, mComps, mChain, fAdd_int, fSub_int, fMul_r, fMul_l, fDiv_c, fMod_c, fPow_c, fLt_int, fLe_int, fGt_int, fGe_int, fEq_int, fNe_int, fEq_bl, fNe_bl, fAdd_tup, fAdd_lst, fIx_lst, fIx_tup, fIx_frz, mSl, pNone, pSome, fIsN, fIsB, gN, gT, gsN, gTs, gsNil, gsCons, gIx, mCall, mMeth, isNetD, postC, imm, imms, List.getElem?_cons_zero, List.getElem?_cons_succ, List.set_cons_zero, List.set_cons_succ, Option.bind_some, Option.bind_none, Option.map_some, Option.map_none, Option.or_some, Option.or_none, Option.none_or, List.map_cons, List.map_nil, List.all_cons, List.all_nil, Bool.and_true, Bool.true_and, Bool.and_false, Bool.false_and, if_true, if_false, reduceCtorEq, decide_true, decide_false, ne_eq, not_true_eq_false, not_false_eq_true, List.length_cons, List.length_nil, List.getElem?_nil, List.set_nil, reduceIte, Bool.false_eq_true, Int.reduceNeg, Int.reduceLT, Int.reduceLE, Int.reducePow, Nat.reducePow, Nat.reduceLT, Nat.reduceLeDiff, Nat.reduceAdd, Int.reduceToNat, and_self, Nat.zero_le, Bool.not_true, Bool.not_false, Bool.not_eq_true, zero_add_nat]
    · rintro j d ρ hd ⟨ps, o, a, b, c, hlen, hok, hst, rfl⟩
      obtain ⟨hj, rfl⟩ := rng_get hd
      have hps : (prs ps).length < lim := by rw [List.length_map]; unfold lim; omega
      obtain ⟨p, a', b', c', hp1, hp2, hb'⟩ := pbodyB_ok (xs := xs) (place := place) (w := w) (many := many) (std := std) (ps := ps) (j := j) (a0 := a) (b0 := b) (c0 := c) hx hp (by omega) (by omega) hw2 hps
      refine ⟨_, _, rfl, hb', ps ++ [p], _, a', b', c', by simp [hlen], ?_, ?_, rfl⟩
      · intro q hq
        rcases List.mem_append.mp hq with h | h
        · exact hok q h
        · simp only [List.mem_singleton] at h; subst h; exact hp1
      · intro hs q hq
        rcases List.mem_append.mp hq with h | h
        · exact hst hs q h
        · simp only [List.mem_singleton] at h; subst h; exact hp2 hs
end Lw

set_option maxRecDepth 100000
set_option maxHeartbeats 4000000
namespace Lw
open PySem L2 Dt
/-! plain rows -/
abbrev rws (rs : List (List Int)) : List D := rs.map fun c => .tup (iL c)
def nxt (rs : List (List Int)) : List (List Int) := rs.flatMap fun r => [r ++ [0], r ++ [1]]
def plainL : Nat → List (List Int)
  | 0 => [[]]
  | k + 1 => nxt (plainL k)
theorem nxt_len : ∀ rs : List (List Int), (nxt rs).length = 2 * rs.length
  | [] => rfl
  | r :: rs => by
    have := nxt_len rs
    unfold nxt at this ⊢
    rw [List.flatMap_cons, List.length_append, this]
    simp only [List.length_cons, List.length_nil]; omega
theorem nxt_snoc (rs : List (List Int)) (r : List Int) : nxt (rs ++ [r]) = nxt rs ++ [r ++ [0], r ++ [1]] := by
  unfold nxt; rw [List.flatMap_append]; simp
theorem plainL_len : ∀ k, (plainL k).length = 2 ^ k
  | 0 => rfl
  | k + 1 => by
    show (nxt (plainL k)).length = _
    rw [nxt_len, plainL_len k, Nat.pow_succ, Nat.mul_comm]
theorem plainL_mem : ∀ k, ∀ r ∈ plainL k, r.length = k
  | 0, r, h => by simp [plainL] at h; subst h; rfl
  | k + 1, r, h => by
    obtain ⟨q, hq, hr⟩ := List.mem_flatMap.mp h
    have := plainL_mem k q hq
    simp only [List.mem_cons, List.not_mem_nil, or_false] at hr
    rcases hr with rfl | rfl <;> simp [this]
theorem rws_len {rs : List (List Int)} : (rws rs).length = rs.length := List.length_map _
theorem rws_app (a b : List (List Int)) : rws a ++ rws b = rws (a ++ b) := by simp
def plbody : S := (sSet 3 (mOp fAdd (mVar 3) (mLst (aCons (mOp fAdd (mVar 4) (mTup (aCons (mC (.int 0)) aNil))) (aCons (mOp fAdd (mVar 4) (mTup (aCons (mC (.int 1)) aNil))) aNil)))))
theorem pl_inner {A B : Option (D × Bool)} {R : Option (D × Bool)} (rs : List (List Int)) (hk : ∀ r ∈ rs, r.length ≤ 1000) (hl : rs.length ≤ 10000) (o : Option (D × Bool)) :
    ∃ o', forGo (gN 4) plbody (rws rs) [A, R, B, some (.lst [], true), o] = some (.nx [A, R, B, some (.lst (rws (nxt rs)), true), o']) := by
  have loop := forGo0 (g := gN 4) (m := plbody) (fun j ρ => ∃ o', ρ = [A, R, B, some (.lst (rws (nxt (rs.take j))), true), o']) (ds := rws rs) (ρ := [A, R, B, some (.lst [], true), o]) ⟨o, rfl⟩ ?_
  · obtain ⟨ρ', h1, o', rfl⟩ := loop
    rw [rws_len, List.take_length] at h1
    exact ⟨o', h1⟩
  · rintro j d ρ hd ⟨o', rfl⟩
    rw [List.getElem?_map] at hd
    cases hx : rs[j]? with
    | none => rw [hx] at hd; cases hd
    | some r =>
      rw [hx] at hd; cases hd
      have hjl : j < rs.length := (List.getElem?_eq_some_iff.mp hx).1
      have hrl := hk r (List.mem_of_getElem? hx)
      have et : nxt (rs.take (j + 1)) = nxt (rs.take j) ++ [r ++ [0], r ++ [1]] := by rw [List.take_add_one, hx]; exact nxt_snoc _ _
      have l1 : 1 ≤ lim := by decide
      have l2 : (iL r).length + 1 ≤ lim := by rw [iL_len]; unfold lim; omega
      have l3 : (rws (nxt (rs.take j))).length + 2 ≤ lim := by rw [rws_len, nxt_len, List.length_take]; unfold lim; omega
      refine ⟨[A, R, B, some (.lst (rws (nxt (rs.take j))), true), some (.tup (iL r), false)], [A, R, B, some (.lst (rws (nxt (rs.take (j + 1)))), true), some (.tup (iL r), false)], by simp only [gN, List.set_cons_succ, List.set_cons_zero], ?_, _, rfl⟩
      have eq0 : ∀ b : Int, iL r ++ [D.int b] = iL (r ++ [b]) := fun b => by simp
      have eq1 : rws (nxt (rs.take j)) ++ [D.tup (iL (r ++ [0])), D.tup (iL (r ++ [1]))] = rws (nxt (rs.take (j + 1))) := by rw [et]; simp
      unfold plbody
      simp only [sIf, sSet, sRet, sNil, sNo, sApp, sAug, sAsg, sExpr, sFrz, sPar, sRev, sRetN, frz1, mOp, mVar, mC, mB, mNot, mAnd, mOr, mNeg, mIf, bNot, bAnd, bOr, bYes, mTup, mLst, aNil, aCons, nb, mFn, fLen, fList, fTuple, fMax2, fMin2, mIsT, isT_int_int, isT_int_bl, isT_bool_int, isT_bool_bl, isT_tuple_tup, isT_list_lst, mIsNet, mWires, mComps, mChain, fAdd_int, fSub_int, fMul_r, fMul_l, fDiv_c, fMod_c, fPow_c, fLt_int, fLe_int, fGt_int, fGe_int, fEq_int, fNe_int, fEq_bl, fNe_bl, fAdd_tup, fAdd_lst, fIx_lst, fIx_tup, fIx_frz, mSl, pNone, pSome, fIsN, fIsB, gN, gT, gsN, gTs, gsNil, gsCons, gIx, mCall, mMeth, isNetD, postC, imm, imms, List.getElem?_cons_zero, List.getElem?_cons_succ, List.set_cons_zero, List.set_cons_succ, Option.bind_some, Option.bind_none, Option.map_some, Option.map_none, Option.or_some, Option.or_none, Option.none_or, List.map_cons, List.map_nil, List.all_cons, List.all_nil, Bool.and_true, Bool.true_and, Bool.and_false, Bool.false_and, if_true, if_false, reduceCtorEq, decide_true, decide_false, ne_eq, not_true_eq_false, not_false_eq_true, List.length_cons, List.length_nil, List.getElem?_nil, List.set_nil, reduceIte, Bool.false_eq_true, Int.reduceNeg, Int.reduceLT, Int.reduceLE, Int.reducePow, Nat.reducePow, Nat.reduceLT, Nat.reduceLeDiff, Nat.reduceAdd, Int.reduceToNat, and_self, Nat.zero_le, Bool.not_true, Bool.not_false, Bool.not_eq_true, zero_add_nat, l1, lim2, l2, l3, eq0, eq1]
theorem plain_ok {n : Nat} (hn : n ≤ 12) : ∃ fl : Bool, f__law_plain [.int (n : Int)] = some (.lst (rws (plainL n)), fl) := by
  have st : ∀ {r : D × Bool}, b__law_plain [some (.int (n : Int), false), none, none, none, none] = some (.rt r.1 r.2) → f__law_plain [.int (n : Int)] = some r := fun h => rF h
  have l1 : 1 ≤ lim := by decide
  have hl0 : 0 ≤ lim := Nat.zero_le _
  have hr : iR1 (aCons (mVar 0) aNil) [some (.int (n : Int), false), some (.lst [.tup []], true), none, none, none] = some (rngD 0 n) := iR1_ok (a := .pure) (by simp only [sIf, sSet, sRet, sNil, sNo, sApp, sAug, sAsg, sExpr, sFrz, sPar, sRev, sRetN, frz1, mOp, mVar, mC, mB, mNot, mAnd, mOr, mNeg, mIf, bNot, bAnd, bOr, bYes, mTup, mLst, aNil, aCons, nb, mFn, fLen, fList, fTuple, fMax2, fMin2, mIsT, isT_int_int, isT_int_bl, isT_bool_int, isT_bool_bl, isT_tuple_tup, isT_list_lst, mIsNet, mWires, mComps, mChain, fAdd_int, fSub_int, fMul_r, fMul_l, fDiv_c, fMod_c, fPow_c, fLt_int, fLe_int, fGt_int, fGe_int, fEq_int, fNe_int, fEq_bl, fNe_bl, fAdd_tup, fAdd_lst, fIx_lst, fIx_tup, fIx_frz, mSl, pNone, pSome, fIsN, fIsB, gN, gT, gsN, gTs, gsNil, gsCons, gIx, mCall, mMeth, isNetD, postC, imm, imms, List.getElem?_cons_zero, List.getElem?_cons_succ, List.set_cons_zero, List.set_cons_succ, Option.bind_some, Option.bind_none, Option.map_some, Option.map_none, Option.or_some, Option.or_none, Option.none_or, List.map_cons, List.map_nil, List.all_cons, List.all_nil, Bool.and_true, Bool.true_and, Bool.and_false, Bool.false_and, if_true, if_false, reduceCtorEq, decide_true, decide_false, ne_eq, not_true_eq_false, not_false_eq_true, List.length_cons, List.length_nil, List.getElem?_nil, List.set_nil, reduceIte, Bool.false_eq_true, Int.reduceNeg, Int.reduceLT, Int.reduceLE, Int.reducePow, Nat.reducePow, Nat.reduceLT, Nat.reduceLeDiff, Nat.reduceAdd, Int.reduceToNat, and_self, Nat.zero_le, Bool.not_true, Bool.not_false, Bool.not_eq_true, zero_add_nat]) (by omega)
  have loop := forGo0 (g := gN 2) (m := (sSeq (sSet 3 (mLst aNil)) (sSeq (sFrz 1 (sFor (iS false (mVar 1)) (gN 4) plbody)) (sFrz 3 (sSet 1 (mVar 3))))))
    (fun j ρ => ∃ (fl : Bool) (a b c : Option (D × Bool)), ρ = [some (.int (n : Int), false), some (.lst (rws (plainL j)), fl), a, b, c]) (ds := rngD 0 n) (ρ := [some (.int (n : Int), false), some (.lst [.tup []], true), none, none, none]) ⟨true, none, none, none, rfl⟩ ?_
  · obtain ⟨ρ', h1, fl, a, b, c, rfl⟩ := loop
    have hrl : (rngD 0 n).length = n := by simp [rngD]
    rw [hrl] at h1
    unfold plbody at h1
    have ims : ∀ rs : List (List Int), imms (rws rs) = true := fun rs => by
      induction rs with
      | nil => rfl
      | cons r rs ih => simp only [rws, List.map_cons, imms, imm, Bool.and_eq_true]; exact ⟨imms_iL r, ih⟩
    refine ⟨fl, st ?_⟩
    unfold b__law_plain
    rw [seq_nx (by simp only [sIf, sSet, sRet, sNil, sNo, sApp, sAug, sAsg, sExpr, sFrz, sPar, sRev, sRetN, frz1, mOp, mVar, mC, mB, mNot, mAnd, mOr, mNeg, mIf, bNot, bAnd, bOr, bYes, mTup, mLst, aNil, aCons, nb, mFn, fLen, fList, fTuple, fMax2, fMin2, mIsT, isT_int_int, isT_int_bl, isT_bool_int, isT_bool_bl, isT_tuple_tup, isT_list_lst, mIsNet, mWires, mComps, mChain, fAdd_int, fSub_int, fMul_r, fMul_l, fDiv_c, fMod_c, fPow_c, fLt_int, fLe_int, fGt_int, fGe_int, fEq_int, fNe_int, fEq_bl, fNe_bl, fAdd_tup, fAdd_lst, fIx_lst, fIx_tup, fIx_frz, mSl, pNone, pSome, fIsN, fIsB, gN, gT, gsN, gTs, gsNil, gsCons, gIx, mCall, mMeth, isNetD, postC, imm, imms, List.getElem?_cons_zero, List.getElem?_cons_succ, List.set_cons_zero, List.set_cons_succ, Option.bind_some, Option.bind_none, Option.map_some, Option.map_none, Option.or_some, Option.or_none, Option.none_or, List.map_cons, List.map_nil, List.all_cons, List.all_nil, Bool.and_true, Bool.true_and, Bool.and_false, Bool.false_and, if_true, if_false, reduceCtorEq, decide_true, decide_false, ne_eq, not_true_eq_false, not_false_eq_true, List.length_cons, List.length_nil, List.getElem?_nil, List.set_nil, reduceIte, Bool.false_eq_true, Int.reduceNeg, Int.reduceLT, Int.reduceLE, Int.reducePow, Nat.reducePow, Nat.reduceLT, Nat.reduceLeDiff, Nat.reduceAdd, Int.reduceToNat, and_self, Nat.zero_le, Bool.not_true, Bool.not_false, Bool.not_eq_true, zero_add_nat, hl0, l1]; rfl), seq_nx ((for_ok hr).trans h1)]
    cases fl <;> simp only [sIf, sSet, sRet, sNil, sNo, sApp, sAug, sAsg, sExpr, sFrz, sPar, sRev, sRetN, frz1, mOp, mVar, mC, mB, mNot, mAnd, mOr, mNeg, mIf, bNot, bAnd, bOr, bYes, mTup, mLst, aNil, aCons, nb, mFn, fLen, fList, fTuple, fMax2, fMin2, mIsT, isT_int_int, isT_int_bl, isT_bool_int, isT_bool_bl, isT_tuple_tup, isT_list_lst, mIsNet, mWires, mComps, mChain, fAdd_int, fSub_int, fMul_r, fMul_l, fDiv_c, fMod_c, fPow_c, fLt_int, fLe_int, fGt_int, fGe_int, fEq_int, fNe_int, fEq_bl, fNe_bl, fAdd_tup, fAdd_lst, fIx_lst, fIx_tup, fIx_frz, mSl, pNone, pSome, fIsN, fIsB, gN, gT, gsN, gTs, gsNil, gsCons, gIx, mCall, mMeth, isNetD, postC, imm, imms, List.getElem?_cons_zero, List.getElem?_cons_succ, List.set_cons_zero, List.set_cons_succ, Option.bind_some, Option.bind_none, Option.map_some, Option.map_none, Option.or_some, Option.or_none, Option.none_or, List.map_cons, List.map_nil, List.all_cons, List.all_nil, Bool.and_true, Bool.true_and, Bool.and_false, Bool.false_and, if_true, if_false, reduceCtorEq, decide_true, decide_false, ne_eq, not_true_eq_false, not_false_eq_true, List.length_cons, List.length_nil, List.getElem?_nil, List.set_nil, reduceIte, Bool.false_eq_true, Int.reduceNeg, Int.reduceLT, Int.reduceLE, Int.reducePow, Nat.reducePow, Nat.reduceLT, Nat.reduceLeDiff, Nat.reduceAdd, Int.reduceToNat, and_self, Nat.zero_le, Bool.not_true, Bool.not_false, Bool.not_eq_true, zero_add_nat]
  · rintro j d ρ hd ⟨fl, a, b, c, rfl⟩
    obtain ⟨hj, rfl⟩ := rng_get hd
    have hpl := plainL_len j
    have hpw : 2 ^ j ≤ 2 ^ 12 := Nat.pow_le_pow_right (by decide) (by omega)
    obtain ⟨o', hin⟩ := pl_inner (A := some (.int (n : Int), false)) (B := some (.int (0 + (j : Int)), false)) (R := some (.lst (rws (plainL j)), false)) (plainL j) (fun r hr => by rw [plainL_mem j r hr]; omega) (by rw [hpl]; omega) c
    refine ⟨_, [some (.int (n : Int), false), some (.lst (rws (plainL (j + 1))), false), some (.int (0 + (j : Int)), false), some (.lst (rws (plainL (j + 1))), false), o'], rfl, ?_, false, _, _, _, rfl⟩
    have hi : iS false (mVar 1) [some (.int (n : Int), false), some (.lst (rws (plainL j)), false), some (.int (0 + (j : Int)), false), some (.lst [], true), c] = some (rws (plainL j)) := by simp only [iS, sIf, sSet, sRet, sNil, sNo, sApp, sAug, sAsg, sExpr, sFrz, sPar, sRev, sRetN, frz1, mOp, mVar, mC, mB, mNot, mAnd, mOr, mNeg, mIf, bNot, bAnd, bOr, bYes, mTup, mLst, aNil, aCons, nb, mFn, fLen, fList, fTuple, fMax2, fMin2, mIsT, isT_int_int, isT_int_bl, isT_bool_int, isT_bool_bl, isT_tuple_tup, isT_list_lst, mIsNet, mWires, mComps, mChain, fAdd_int, fSub_int, fMul_r, fMul_l, fDiv_c, fMod_c, fPow_c, fLt_int, fLe_int, fGt_int, fGe_int, fEq_int, fNe_int, fEq_bl, fNe_bl, fAdd_tup, fAdd_lst, fIx_lst, fIx_tup, fIx_frz, mSl, pNone, pSome, fIsN, fIsB, gN, gT, gsN, gTs, gsNil, gsCons, gIx, mCall, mMeth, isNetD, postC, imm, imms, List.getElem?_cons_zero, List.getElem?_cons_succ, List.set_cons_zero, List.set_cons_succ, Option.bind_some, Option.bind_none, Option.map_some, Option.map_none, Option.or_some, Option.or_none, Option.none_or, List.map_cons, List.map_nil, List.all_cons, List.all_nil, Bool.and_true, Bool.true_and, Bool.and_false, Bool.false_and, if_true, if_false, reduceCtorEq, decide_true, decide_false, ne_eq, not_true_eq_false, not_false_eq_true, List.length_cons, List.length_nil, List.getElem?_nil, List.set_nil, reduceIte, Bool.false_eq_true, Int.reduceNeg, Int.reduceLT, Int.reduceLE, Int.reducePow, Nat.reducePow, Nat.reduceLT, Nat.reduceLeDiff, Nat.reduceAdd, Int.reduceToNat, and_self, Nat.zero_le, Bool.not_true, Bool.not_false, Bool.not_eq_true, zero_add_nat, Bool.or_self, Bool.false_or]
    rw [seq_nx (by simp only [sIf, sSet, sRet, sNil, sNo, sApp, sAug, sAsg, sExpr, sFrz, sPar, sRev, sRetN, frz1, mOp, mVar, mC, mB, mNot, mAnd, mOr, mNeg, mIf, bNot, bAnd, bOr, bYes, mTup, mLst, aNil, aCons, nb, mFn, fLen, fList, fTuple, fMax2, fMin2, mIsT, isT_int_int, isT_int_bl, isT_bool_int, isT_bool_bl, isT_tuple_tup, isT_list_lst, mIsNet, mWires, mComps, mChain, fAdd_int, fSub_int, fMul_r, fMul_l, fDiv_c, fMod_c, fPow_c, fLt_int, fLe_int, fGt_int, fGe_int, fEq_int, fNe_int, fEq_bl, fNe_bl, fAdd_tup, fAdd_lst, fIx_lst, fIx_tup, fIx_frz, mSl, pNone, pSome, fIsN, fIsB, gN, gT, gsN, gTs, gsNil, gsCons, gIx, mCall, mMeth, isNetD, postC, imm, imms, List.getElem?_cons_zero, List.getElem?_cons_succ, List.set_cons_zero, List.set_cons_succ, Option.bind_some, Option.bind_none, Option.map_some, Option.map_none, Option.or_some, Option.or_none, Option.none_or, List.map_cons, List.map_nil, List.all_cons, List.all_nil, Bool.and_true, Bool.true_and, Bool.and_false, Bool.false_and, if_true, if_false, reduceCtorEq, decide_true, decide_false, ne_eq, not_true_eq_false, not_false_eq_true, List.length_cons, List.length_nil, List.getElem?_nil, List.set_nil, reduceIte, Bool.false_eq_true, Int.reduceNeg, Int.reduceLT, Int.reduceLE, Int.reducePow, Nat.reducePow, Nat.reduceLT, Nat.reduceLeDiff, Nat.reduceAdd, Int.reduceToNat, and_self, Nat.zero_le, Bool.not_true, Bool.not_false, Bool.not_eq_true, zero_add_nat, hl0]; rfl)]
    have hin2 := (for_ok hi).trans hin
    cases fl
    all_goals
      rw [seq_nx (ρ' := [some (.int (n : Int), false), some (.lst (rws (plainL j)), false), some (.int (0 + (j : Int)), false), some (.lst (rws (nxt (plainL j))), true), o']) (by simp only [sFrz, frz1, List.getElem?_cons_succ, List.getElem?_cons_zero, List.set_cons_succ, List.set_cons_zero, zero_add_nat] at hin2 ⊢; exact hin2)]
      simp only [sIf, sSet, sRet, sNil, sNo, sApp, sAug, sAsg, sExpr, sFrz, sPar, sRev, sRetN, frz1, mOp, mVar, mC, mB, mNot, mAnd, mOr, mNeg, mIf, bNot, bAnd, bOr, bYes, mTup, mLst, aNil, aCons, nb, mFn, fLen, fList, fTuple, fMax2, fMin2, mIsT, isT_int_int, isT_int_bl, isT_bool_int, isT_bool_bl, isT_tuple_tup, isT_list_lst, mIsNet, mWires, mComps, mChain, fAdd_int, fSub_int, fMul_r, fMul_l, fDiv_c, fMod_c, fPow_c, fLt_int, fLe_int, fGt_int, fGe_int, fEq_int, fNe_int, fEq_bl, fNe_bl, fAdd_tup, fAdd_lst, fIx_lst, fIx_tup, fIx_frz, mSl, pNone, pSome, fIsN, fIsB, gN, gT, gsN, gTs, gsNil, gsCons, gIx, mCall, mMeth, isNetD, postC, imm, imms, List.getElem?_cons_zero, List.getElem?_cons_succ, List.set_cons_zero, List.set_cons_succ, Option.bind_some, Option.bind_none, Option.map_some, Option.map_none, Option.or_some, Option.or_none, Option.none_or, List.map_cons, List.map_nil, List.all_cons, List.all_nil, Bool.and_true, Bool.true_and, Bool.and_false, Bool.false_and, if_true, if_false, reduceCtorEq, decide_true, decide_false, ne_eq, not_true_eq_false, not_false_eq_true, List.length_cons, List.length_nil, List.getElem?_nil, List.set_nil, reduceIte, Bool.false_eq_true, Int.reduceNeg, Int.reduceLT, Int.reduceLE, Int.reducePow, Nat.reducePow, Nat.reduceLT, Nat.reduceLeDiff, Nat.reduceAdd, Int.reduceToNat, and_self, Nat.zero_le, Bool.not_true, Bool.not_false, Bool.not_eq_true, zero_add_nat, plainL]
end Lw

set_option maxRecDepth 100000
set_option maxHeartbeats 4000000
namespace Lw
open PySem L2 Dt
/-! rows of digits -/
def rbodyB : S := (sSeq (sApp 4 (mOp fSub (mOp fMod (mVar 3) (mC (.int 7))) (mC (.int 3)))) (sSet 3 (mOp fAdd (mOp fDiv (mVar 3) (mC (.int 7))) (mOp fMul (mC (.int 5)) (mVar 5)))))
def bRowB : S := (sSeq (sSet 3 (mOp fIx (mVar 0) (mVar 1))) (sSeq (sSet 4 (mLst aNil)) (sSeq (sFor (iR1 (aCons (mVar 2) aNil)) (gN 5) (sSeq (sApp 4 (mOp fSub (mOp fMod (mVar 3) (mC (.int 7))) (mC (.int 3)))) (sSet 3 (mOp fAdd (mOp fDiv (mVar 3) (mC (.int 7))) (mOp fMul (mC (.int 5)) (mVar 5)))))) (sSeq (sSet 6 (mOp fIx (mLst (aCons (mC (.int 1)) (aCons (mC (.int 1)) (aCons (mOp fPow (mC (.int 10)) (mC (.int 20))) (aCons (mC (.int 3)) aNil))))) (mOp fMod (mOp fIx (mVar 0) (mOp fAdd (mVar 1) (mC (.int 1)))) (mC (.int 4))))) (sRet (mFn fTuple (aCons (mLc (iS true (mVar 4)) (gN 7) bYes (mOp fMul (mVar 7) (mVar 6)) [7]) aNil)))))))
theorem lcmul {A0 A1 A2 A3 A4 A5 : Option (D × Bool)} {f : Int} : ∀ (cs : List Int) (o : Option (D × Bool)), (∀ c ∈ cs, -1000 ≤ c ∧ c ≤ 1000) → lcGo (gN 7) bYes (mOp fMul (mVar 7) (mVar 6)) (iL cs) [A0, A1, A2, A3, A4, A5, some (.int f, false), o] = some (iL (cs.map fun c => c * f))
  | [], _, _ => rfl
  | c :: cs, o, h => by
    have ih := lcmul (A0 := A0) (A1 := A1) (A2 := A2) (A3 := A3) (A4 := A4) (A5 := A5) (f := f) cs o (fun q hq => h q (List.mem_cons_of_mem _ hq))
    obtain ⟨h1, h2⟩ := h c List.mem_cons_self
    have hb : -18446744073709551616 < c ∧ c < 18446744073709551616 := ⟨by omega, by omega⟩
    show lcGo _ _ _ (.int c :: iL cs) _ = _
    unfold lcGo
    rw [ih]
    simp only [sIf, sSet, sRet, sNil, sNo, sApp, sAug, sAsg, sExpr, sFrz, sPar, sRev, sRetN, frz1, mOp, mVar, mC, mB, mNot, mAnd, mOr, mNeg, mIf, bNot, bAnd, bOr, bYes, mTup, mLst, aNil, aCons, nb, mFn, fLen, fList, fTuple, fMax2, fMin2, mIsT, isT_int_int, isT_int_bl, isT_bool_int, isT_bool_bl, isT_tuple_tup, isT_list_lst, mIsNet, mWires, mComps, mChain, fAdd_int, fSub_int, fMul_r, fMul_l, fDiv_c, fMod_c, fPow_c, fLt_int, fLe_int, fGt_int, fGe_int, fEq_int, fNe_int, fEq_bl, fNe_bl, fAdd_tup, fAdd_lst, fIx_lst, fIx_tup, fIx_frz, mSl, pNone, pSome, fIsN, fIsB, gN, gT, gsN, gTs, gsNil, gsCons, gIx, mCall, mMeth, isNetD, postC, imm, imms, List.getElem?_cons_zero, List.getElem?_cons_succ, List.set_cons_zero, List.set_cons_succ, Option.bind_some, Option.bind_none, Option.map_some, Option.map_none, Option.or_some, Option.or_none, Option.none_or, List.map_cons, List.map_nil, List.all_cons, List.all_nil, Bool.and_true, Bool.true_and, Bool.and_false, Bool.false_and, if_true, if_false, reduceCtorEq, decide_true, decide_false, ne_eq, not_true_eq_false, not_false_eq_true, List.length_cons, List.length_nil, List.getElem?_nil, List.set_nil, reduceIte, Bool.false_eq_true, Int.reduceNeg, Int.reduceLT, Int.reduceLE, Int.reducePow, Nat.reducePow, Nat.reduceLT, Nat.reduceLeDiff, Nat.reduceAdd, Int.reduceToNat, and_self, Nat.zero_le, Bool.not_true, Bool.not_false, Bool.not_eq_true, zero_add_nat, hb]
theorem four_at {r : Int} (h0 : 0 ≤ r) (h1 : r < 4) : ∃ f : Int, atI [D.int 1, D.int 1, D.int 100000000000000000000, D.int 3] r = some (.int f) := by
  by_cases a : r = 0
  · subst a; exact ⟨_, rfl⟩
  · by_cases b : r = 1
    · subst b; exact ⟨_, rfl⟩
    · by_cases c : r = 2
      · subst c; exact ⟨_, rfl⟩
      · have : r = 3 := by omega
        subst this; exact ⟨_, rfl⟩
theorem rowB_ok {F : FD} (hF : F = runF 8 bRowB) {xs : List Int} {place w : Int} (hx : ∀ x ∈ xs, 0 ≤ x ∧ x < 1000000) (hp : 0 ≤ place) (hl : place + 1 < xs.length) (hw : 1 ≤ w) (hw2 : w ≤ 12) :
    ∃ rs : List Int, (rs.length : Int) = w ∧ F [.lst (iL xs), .int place, .int w] = some (.tup (iL rs), false) := by
  subst hF
  obtain ⟨x, e1, hm, _⟩ := at_nn (xs := xs) (i := place) hp (by omega)
  obtain ⟨y, e2, hm2, _⟩ := at_nn (xs := xs) (i := place + 1) (by omega) (by omega)
  have hl0 : 0 ≤ lim := Nat.zero_le _
  have st : ∀ {r : D × Bool}, bRowB [some (.lst (iL xs), false), some (.int place, false), some (.int w, false), none, none, none, none, none] = some (.rt r.1 r.2) → runF 8 bRowB [.lst (iL xs), .int place, .int w] = some r := fun h => rF h
  have cn : (w.toNat : Int) = w := Int.toNat_of_nonneg (by omega)
  have loop := forGo0 (g := gN 5) (m := rbodyB)
      (fun j ρ => ∃ (n : Int) (rs : List Int) (o : Option (D × Bool)), rs.length = j ∧ (∀ c ∈ rs, -1000 ≤ c ∧ c ≤ 1000) ∧ ρ = [some (.lst (iL xs), false), some (.int place, false), some (.int w, false), some (.int n, false), some (.lst (iL rs), true), o, none, none])
      (ds := rngD 0 w.toNat) (ρ := [some (.lst (iL xs), false), some (.int place, false), some (.int w, false), some (.int x, false), some (.lst [], true), none, none, none]) ⟨x, [], none, rfl, (fun c hc => by cases hc), rfl⟩ ?_
  · obtain ⟨ρ', h1, n, rs, o, hlen, hbd, rfl⟩ := loop
    rw [rng_len] at hlen
    unfold rbodyB at h1
    have hr : iR1 (aCons (mVar 2) aNil) [some (.lst (iL xs), false), some (.int place, false), some (.int w, false), some (.int x, false), some (.lst [], true), none, none, none] = some (rngD 0 w.toNat) :=
      iR1_ok (a := .pure) (by simp only [sIf, sSet, sRet, sNil, sNo, sApp, sAug, sAsg, sExpr, sFrz, sPar, sRev, sRetN, frz1, mOp, mVar, mC, mB, mNot, mAnd, mOr, mNeg, mIf, bNot, bAnd, bOr, bYes, mTup, mLst, aNil, aCons, nb, mFn, fLen, fList, fTuple, fMax2, fMin2, mIsT, isT_int_int, isT_int_bl, isT_bool_int, isT_bool_bl, isT_tuple_tup, isT_list_lst, mIsNet, mWires, mComps, mChain, fAdd_int, fSub_int, fMul_r, fMul_l, fDiv_c, fMod_c, fPow_c, fLt_int, fLe_int, fGt_int, fGe_int, fEq_int, fNe_int, fEq_bl, fNe_bl, fAdd_tup, fAdd_lst, fIx_lst, fIx_tup, fIx_frz, mSl, pNone, pSome, fIsN, fIsB, gN, gT, gsN, gTs, gsNil, gsCons, gIx, mCall, mMeth, isNetD, postC, imm, imms, List.getElem?_cons_zero, List.getElem?_cons_succ, List.set_cons_zero, List.set_cons_succ, Option.bind_some, Option.bind_none, Option.map_some, Option.map_none, Option.or_some, Option.or_none, Option.none_or, List.map_cons, List.map_nil, List.all_cons, List.all_nil, Bool.and_true, Bool.true_and, Bool.and_false, Bool.false_and, if_true, if_false, reduceCtorEq, decide_true, decide_false, ne_eq, not_true_eq_false, not_false_eq_true, List.length_cons, List.length_nil, List.getElem?_nil, List.set_nil, reduceIte, Bool.false_eq_true, Int.reduceNeg, Int.reduceLT, Int.reduceLE, Int.reducePow, Nat.reducePow, Nat.reduceLT, Nat.reduceLeDiff, Nat.reduceAdd, Int.reduceToNat, and_self, Nat.zero_le, Bool.not_true, Bool.not_false, Bool.not_eq_true, zero_add_nat, cn]) (by omega)
    have r0 := Int.emod_nonneg y (by decide : (4 : Int) ≠ 0)
    have r1 := Int.emod_lt_of_pos y (by decide : (0 : Int) < 4)
    obtain ⟨f, ef⟩ := four_at r0 r1
    have hpw : CPow 10 20 := by unfold CPow; decide
    have l4 : 4 ≤ lim := by decide
    have hll : (iL rs).length ≤ lim := by rw [iL_len]; unfold lim; omega
    have e3 : mLc (iS true (mVar 4)) (gN 7) bYes (mOp fMul (mVar 7) (mVar 6)) [7] [some (.lst (iL xs), false), some (.int place, false), some (.int w, false), some (.int n, false), some (.lst (iL rs), true), o, some (.int f, false), none] = some (.lst (iL (rs.map fun c => c * f)), .fresh) := by
      simp only [mLc, iS, sIf, sSet, sRet, sNil, sNo, sApp, sAug, sAsg, sExpr, sFrz, sPar, sRev, sRetN, frz1, mOp, mVar, mC, mB, mNot, mAnd, mOr, mNeg, mIf, bNot, bAnd, bOr, bYes, mTup, mLst, aNil, aCons, nb, mFn, fLen, fList, fTuple, fMax2, fMin2, mIsT, isT_int_int, isT_int_bl, isT_bool_int, isT_bool_bl, isT_tuple_tup, isT_list_lst, mIsNet, mWires, mComps, mChain, fAdd_int, fSub_int, fMul_r, fMul_l, fDiv_c, fMod_c, fPow_c, fLt_int, fLe_int, fGt_int, fGe_int, fEq_int, fNe_int, fEq_bl, fNe_bl, fAdd_tup, fAdd_lst, fIx_lst, fIx_tup, fIx_frz, mSl, pNone, pSome, fIsN, fIsB, gN, gT, gsN, gTs, gsNil, gsCons, gIx, mCall, mMeth, isNetD, postC, imm, imms, List.getElem?_cons_zero, List.getElem?_cons_succ, List.set_cons_zero, List.set_cons_succ, Option.bind_some, Option.bind_none, Option.map_some, Option.map_none, Option.or_some, Option.or_none, Option.none_or, List.map_cons, List.map_nil, List.all_cons, List.all_nil, Bool.and_true, Bool.true_and, Bool.and_false, Bool.false_and, if_true, if_false, reduceCtorEq, decide_true, decide_false, ne_eq, not_true_eq_false, not_false_eq_true, List.length_cons, List.length_nil, List.getElem?_nil, List.set_nil, reduceIte, Bool.false_eq_true, Int.reduceNeg, Int.reduceLT, Int.reduceLE, Int.reducePow, Nat.reducePow, Nat.reduceLT, Nat.reduceLeDiff, Nat.reduceAdd, Int.reduceToNat, and_self, Nat.zero_le, Bool.not_true, Bool.not_false, Bool.not_eq_true, zero_add_nat, wipeE, if_pos hll, Bool.true_or]
      rw [lcmul _ _ hbd]; rfl
    refine ⟨rs.map fun c => c * f, by rw [List.length_map]; omega, st ?_⟩
    unfold bRowB
    rw [seq_nx (by simp only [sIf, sSet, sRet, sNil, sNo, sApp, sAug, sAsg, sExpr, sFrz, sPar, sRev, sRetN, frz1, mOp, mVar, mC, mB, mNot, mAnd, mOr, mNeg, mIf, bNot, bAnd, bOr, bYes, mTup, mLst, aNil, aCons, nb, mFn, fLen, fList, fTuple, fMax2, fMin2, mIsT, isT_int_int, isT_int_bl, isT_bool_int, isT_bool_bl, isT_tuple_tup, isT_list_lst, mIsNet, mWires, mComps, mChain, fAdd_int, fSub_int, fMul_r, fMul_l, fDiv_c, fMod_c, fPow_c, fLt_int, fLe_int, fGt_int, fGe_int, fEq_int, fNe_int, fEq_bl, fNe_bl, fAdd_tup, fAdd_lst, fIx_lst, fIx_tup, fIx_frz, mSl, pNone, pSome, fIsN, fIsB, gN, gT, gsN, gTs, gsNil, gsCons, gIx, mCall, mMeth, isNetD, postC, imm, imms, List.getElem?_cons_zero, List.getElem?_cons_succ, List.set_cons_zero, List.set_cons_succ, Option.bind_some, Option.bind_none, Option.map_some, Option.map_none, Option.or_some, Option.or_none, Option.none_or, List.map_cons, List.map_nil, List.all_cons, List.all_nil, Bool.and_true, Bool.true_and, Bool.and_false, Bool.false_and, if_true, if_false, reduceCtorEq, decide_true, decide_false, ne_eq, not_true_eq_false, not_false_eq_true, List.length_cons, List.length_nil, List.getElem?_nil, List.set_nil, reduceIte, Bool.false_eq_true, Int.reduceNeg, Int.reduceLT, Int.reduceLE, Int.reducePow, Nat.reducePow, Nat.reduceLT, Nat.reduceLeDiff, Nat.reduceAdd, Int.reduceToNat, and_self, Nat.zero_le, Bool.not_true, Bool.not_false, Bool.not_eq_true, zero_add_nat, e1]; rfl), seq_nx (by simp only [sIf, sSet, sRet, sNil, sNo, sApp, sAug, sAsg, sExpr, sFrz, sPar, sRev, sRetN, frz1, mOp, mVar, mC, mB, mNot, mAnd, mOr, mNeg, mIf, bNot, bAnd, bOr, bYes, mTup, mLst, aNil, aCons, nb, mFn, fLen, fList, fTuple, fMax2, fMin2, mIsT, isT_int_int, isT_int_bl, isT_bool_int, isT_bool_bl, isT_tuple_tup, isT_list_lst, mIsNet, mWires, mComps, mChain, fAdd_int, fSub_int, fMul_r, fMul_l, fDiv_c, fMod_c, fPow_c, fLt_int, fLe_int, fGt_int, fGe_int, fEq_int, fNe_int, fEq_bl, fNe_bl, fAdd_tup, fAdd_lst, fIx_lst, fIx_tup, fIx_frz, mSl, pNone, pSome, fIsN, fIsB, gN, gT, gsN, gTs, gsNil, gsCons, gIx, mCall, mMeth, isNetD, postC, imm, imms, List.getElem?_cons_zero, List.getElem?_cons_succ, List.set_cons_zero, List.set_cons_succ, Option.bind_some, Option.bind_none, Option.map_some, Option.map_none, Option.or_some, Option.or_none, Option.none_or, List.map_cons, List.map_nil, List.all_cons, List.all_nil, Bool.and_true, Bool.true_and, Bool.and_false, Bool.false_and, if_true, if_false, reduceCtorEq, decide_true, decide_false, ne_eq, not_true_eq_false, not_false_eq_true, List.length_cons, List.length_nil, List.getElem?_nil, List.set_nil, reduceIte, Bool.false_eq_true, Int.reduceNeg, Int.reduceLT, Int.reduceLE, Int.reducePow, Nat.reducePow, Nat.reduceLT, Nat.reduceLeDiff, Nat.reduceAdd, Int.reduceToNat, and_self, Nat.zero_le, Bool.not_true, Bool.not_false, Bool.not_eq_true, zero_add_nat, hl0]; rfl), seq_nx ((for_ok hr).trans h1)]
    rw [seq_nx (ρ' := [some (.lst (iL xs), false), some (.int place, false), some (.int w, false), some (.int n, false), some (.lst (iL rs), true), o, some (.int f, false), none]) (by
      simp only [sIf, sSet, sRet, sNil, sNo, sApp, sAug, sAsg, sExpr, sFrz, sPar, sRev, sRetN, frz1, mOp, mVar, mC, mB, mNot, mAnd, mOr, mNeg, mIf, bNot, bAnd, bOr, bYes, mTup, mLst, aNil, aCons, nb, mFn, fLen, fList, fTuple, fMax2, fMin2, mIsT, isT_int_int, isT_int_bl, isT_bool_int, isT_bool_bl, isT_tuple_tup, isT_list_lst, mIsNet, mWires, mComps, mChain, fAdd_int, fSub_int, fMul_r, fMul_l, fDiv_c, fMod_c, fPow_c, fLt_int, fLe_int, fGt_int, fGe_int, fEq_int, fNe_int, fEq_bl, fNe_bl, fAdd_tup, fAdd_lst, fIx_lst, fIx_tup, fIx_frz, mSl, pNone, pSome, fIsN, fIsB, gN, gT, gsN, gTs, gsNil, gsCons, gIx, mCall, mMeth, isNetD, postC, imm, imms, List.getElem?_cons_zero, List.getElem?_cons_succ, List.set_cons_zero, List.set_cons_succ, Option.bind_some, Option.bind_none, Option.map_some, Option.map_none, Option.or_some, Option.or_none, Option.none_or, List.map_cons, List.map_nil, List.all_cons, List.all_nil, Bool.and_true, Bool.true_and, Bool.and_false, Bool.false_and, if_true, if_false, reduceCtorEq, decide_true, decide_false, ne_eq, not_true_eq_false, not_false_eq_true, List.length_cons, List.length_nil, List.getElem?_nil, List.set_nil, reduceIte, Bool.false_eq_true, Int.reduceNeg, Int.reduceLT, Int.reduceLE, Int.reducePow, Nat.reducePow, Nat.reduceLT, Nat.reduceLeDiff, Nat.reduceAdd, Int.reduceToNat, and_self, Nat.zero_le, Bool.not_true, Bool.not_false, Bool.not_eq_true, zero_add_nat, hpw, l4, e2, ef])]
    simp only [sRet, mFn, aCons, e3, aNil, fTuple, Option.bind_some, Option.map_some, Bool.false_eq_true, if_false, ne_eq, not_true_eq_false, decide_false, reduceCtorEq, not_false_eq_true, decide_true]
  · rintro j d ρ hd ⟨n, rs, o, hlen, hbd, rfl⟩
    obtain ⟨hj, rfl⟩ := rng_get hd
    have hrs : (iL rs).length < lim := by rw [List.length_map]; unfold lim; omega
    have m0 := Int.emod_nonneg n (by decide : (7 : Int) ≠ 0)
    have m1 := Int.emod_lt_of_pos n (by decide : (0 : Int) < 7)
    refine ⟨[some (.lst (iL xs), false), some (.int place, false), some (.int w, false), some (.int n, false), some (.lst (iL rs), true), some (.int (0 + (j : Int)), false), none, none], [some (.lst (iL xs), false), some (.int place, false), some (.int w, false), some (.int (n / 7 + 5 * (j : Int)), false), some (.lst (iL (rs ++ [n % 7 - 3])), true), some (.int (j : Int), false), none, none], by simp only [gN, List.set_cons_succ, List.set_cons_zero], ?_, n / 7 + 5 * (j : Int), rs ++ [n % 7 - 3], _, by simp [hlen], ?_, rfl⟩
    · unfold rbodyB
      rw [← iL_app]
      rw [seq_nx (by simp only [sIf, sSet, sRet, sNil, sNo, sApp, sAug, sAsg, sExpr, sFrz, sPar, sRev, sRetN, frz1, mOp, mVar, mC, mB, mNot, mAnd, mOr, mNeg, mIf, bNot, bAnd, bOr, bYes, mTup, mLst, aNil, aCons, nb, mFn, fLen, fList, fTuple, fMax2, fMin2, mIsT, isT_int_int, isT_int_bl, isT_bool_int, isT_bool_bl, isT_tuple_tup, isT_list_lst, mIsNet, mWires, mComps, mChain, fAdd_int, fSub_int, fMul_r, fMul_l, fDiv_c, fMod_c, fPow_c, fLt_int, fLe_int, fGt_int, fGe_int, fEq_int, fNe_int, fEq_bl, fNe_bl, fAdd_tup, fAdd_lst, fIx_lst, fIx_tup, fIx_frz, mSl, pNone, pSome, fIsN, fIsB, gN, gT, gsN, gTs, gsNil, gsCons, gIx, mCall, mMeth, isNetD, postC, imm, imms, List.getElem?_cons_zero, List.getElem?_cons_succ, List.set_cons_zero, List.set_cons_succ, Option.bind_some, Option.bind_none, Option.map_some, Option.map_none, Option.or_some, Option.or_none, Option.none_or, List.map_cons, List.map_nil, List.all_cons, List.all_nil, Bool.and_true, Bool.true_and, Bool.and_false, Bool.false_and, if_true, if_false, reduceCtorEq, decide_true, decide_false, ne_eq, not_true_eq_false, not_false_eq_true, List.length_cons, List.length_nil, List.getElem?_nil, List.set_nil, reduceIte, Bool.false_eq_true, Int.reduceNeg, Int.reduceLT, Int.reduceLE, Int.reducePow, Nat.reducePow, Nat.reduceLT, Nat.reduceLeDiff, Nat.reduceAdd, Int.reduceToNat, and_self, Nat.zero_le, Bool.not_true, Bool.not_false, Bool.not_eq_true, zero_add_nat, hrs]; rfl)]
      simp only [sIf, sSet, sRet, sNil, sNo, sApp, sAug, sAsg, sExpr, sFrz, sPar, sRev, sRetN, frz1, mOp, mVar, mC, mB, mNot, mAnd, mOr, mNeg, mIf, bNot, bAnd, bOr, bYes, mTup, mLst, aNil, aCons, nb, mFn, fLen, fList, fTuple, fMax2, fMin2, mIsT, isT_int_int, isT_int_bl, isT_bool_int, isT_bool_bl, isT_tuple_tup, isT_list_lst, mIsNet, mWires, mComps, mChain, fAdd_int, fSub_int, fMul_r, fMul_l, fDiv_c, fMod_c, fPow_c, fLt_int, fLe_int, fGt_int, fGe_int, fEq_int, fNe_int, fEq_bl, fNe_bl, fAdd_tup, fAdd_lst, fIx_lst, fIx_tup, fIx_frz, mSl, pNone, pSome, fIsN, fIsB, gN, gT, gsN, gTs, gsNil, gsCons, gIx, mCall, mMeth, isNetD, postC, imm, imms, List.getElem?_cons_zero, List.getElem?_cons_succ, List.set_cons_zero, List.set_cons_succ, Option.bind_some, Option.bind_none, Option.map_some, Option.map_none, Option.or_some, Option.or_none, Option.none_or, List.map_cons, List.map_nil, List.all_cons, List.all_nil, Bool.and_true, Bool.true_and, Bool.and_false, Bool.false_and, if_true, if_false, reduceCtorEq, decide_true, decide_false, ne_eq, not_true_eq_false, not_false_eq_true, List.length_cons, List.length_nil, List.getElem?_nil, List.set_nil, reduceIte, Bool.false_eq_true, Int.reduceNeg, Int.reduceLT, Int.reduceLE, Int.reducePow, Nat.reducePow, Nat.reduceLT, Nat.reduceLeDiff, Nat.reduceAdd, Int.reduceToNat, and_self, Nat.zero_le, Bool.not_true, Bool.not_false, Bool.not_eq_true, zero_add_nat]
    · intro c hc
      rcases List.mem_append.mp hc with h | h
      · exact hbd c h
      · simp only [List.mem_singleton] at h; subst h; omega
/-! straight -/
def stC : List (Int × Int) → List Int → List (Int × Int)
  | [], _ => []
  | p :: ps, nm => ((cmp1 nm p).getD p.1.toNat 0, (cmp1 nm p).getD p.2.toNat 0) :: stC ps (cmp1 nm p)
theorem stC_len : ∀ (ps : List (Int × Int)) (nm : List Int), (stC ps nm).length = ps.length
  | [], _ => rfl
  | p :: ps, nm => by simp [stC, stC_len ps]
def stbody : S := (sSeq (sIf (mB (mOp fLt (mOp fIx (mVar 1) (mVar 4)) (mOp fIx (mVar 1) (mVar 3)))) (sAsg (mTup (aCons (mOp fIx (mVar 1) (mVar 4)) (aCons (mOp fIx (mVar 1) (mVar 3)) aNil))) (gTs 2 (gsCons (gIx 1 (mVar 3)) (gsCons (gIx 1 (mVar 4)) gsNil)))) sNil) (sApp 2 (mTup (aCons (mOp fIx (mVar 1) (mVar 3)) (aCons (mOp fIx (mVar 1) (mVar 4)) aNil)))))
theorem stbody_ok {P : Option (D × Bool)} {c : List Int} {cs : List (Int × Int)} {p : Int × Int} (h : 0 ≤ p.1 ∧ p.1 < c.length ∧ 0 ≤ p.2 ∧ p.2 < c.length ∧ p.1 ≠ p.2) (hcs : (prs cs).length < lim) :
    stbody [P, some (.lst (iL c), true), some (.lst (prs cs), true), some (.int p.1, false), some (.int p.2, false)] = some (.nx [P, some (.lst (iL (cmp1 c p)), true), some (.lst (prs (cs ++ [((cmp1 c p).getD p.1.toNat 0, (cmp1 c p).getD p.2.toNat 0)])), true), some (.int p.1, false), some (.int p.2, false)]) := by
  have hlen := cmp1_len c p
  have f1 := at_in (c := cmp1 c p) (i := p.1) h.1 (by rw [hlen]; exact h.2.1)
  have f2 := at_in (c := cmp1 c p) (i := p.2) h.2.2.1 (by rw [hlen]; exact h.2.2.2.1)
  have hc1 := cmp1_eq h
  obtain ⟨h1, h2, h3, h4, h5⟩ := h
  have e1 := at_in h1 h2
  have e2 := at_in h3 h4
  have i1 : ixN (iL c).length p.1 = some p.1.toNat := ixN_in h1 (by rw [iL_len]; exact h2)
  have i2 : ∀ x : Int, ixN (iL (c.set p.1.toNat x)).length p.2 = some p.2.toNat := fun x => ixN_in h3 (by rw [iL_len, List.length_set]; exact h4)
  have l2 := lim2
  unfold stbody
  rw [← prs_app]
  rw [seq_nx (ρ' := [P, some (.lst (iL (cmp1 c p)), true), some (.lst (prs cs), true), some (.int p.1, false), some (.int p.2, false)]) (by
    rw [hc1]
    cases hb : decide (c.getD p.2.toNat 0 < c.getD p.1.toNat 0) with
    | true =>
      have ht := of_decide_eq_true hb
      rw [if_pos ht]
      simp only [sIf, sSet, sRet, sNil, sNo, sApp, sAug, sAsg, sExpr, sFrz, sPar, sRev, sRetN, frz1, mOp, mVar, mC, mB, mNot, mAnd, mOr, mNeg, mIf, bNot, bAnd, bOr, bYes, mTup, mLst, aNil, aCons, nb, mFn, fLen, fList, fTuple, fMax2, fMin2, mIsT, isT_int_int, isT_int_bl, isT_bool_int, isT_bool_bl, isT_tuple_tup, isT_list_lst, mIsNet, mWires, mComps, mChain, fAdd_int, fSub_int, fMul_r, fMul_l, fDiv_c, fMod_c, fPow_c, fLt_int, fLe_int, fGt_int, fGe_int, fEq_int, fNe_int, fEq_bl, fNe_bl, fAdd_tup, fAdd_lst, fIx_lst, fIx_tup, fIx_frz, mSl, pNone, pSome, fIsN, fIsB, gN, gT, gsN, gTs, gsNil, gsCons, gIx, mCall, mMeth, isNetD, postC, imm, imms, List.getElem?_cons_zero, List.getElem?_cons_succ, List.set_cons_zero, List.set_cons_succ, Option.bind_some, Option.bind_none, Option.map_some, Option.map_none, Option.or_some, Option.or_none, Option.none_or, List.map_cons, List.map_nil, List.all_cons, List.all_nil, Bool.and_true, Bool.true_and, Bool.and_false, Bool.false_and, if_true, if_false, reduceCtorEq, decide_true, decide_false, ne_eq, not_true_eq_false, not_false_eq_true, List.length_cons, List.length_nil, List.getElem?_nil, List.set_nil, reduceIte, Bool.false_eq_true, Int.reduceNeg, Int.reduceLT, Int.reduceLE, Int.reducePow, Nat.reducePow, Nat.reduceLT, Nat.reduceLeDiff, Nat.reduceAdd, Int.reduceToNat, and_self, Nat.zero_le, Bool.not_true, Bool.not_false, Bool.not_eq_true, zero_add_nat, e1, e2, hb, l2, i1, i2, iL_set]
    | false =>
      have ht := of_decide_eq_false hb
      rw [if_neg ht]
      simp only [sIf, sSet, sRet, sNil, sNo, sApp, sAug, sAsg, sExpr, sFrz, sPar, sRev, sRetN, frz1, mOp, mVar, mC, mB, mNot, mAnd, mOr, mNeg, mIf, bNot, bAnd, bOr, bYes, mTup, mLst, aNil, aCons, nb, mFn, fLen, fList, fTuple, fMax2, fMin2, mIsT, isT_int_int, isT_int_bl, isT_bool_int, isT_bool_bl, isT_tuple_tup, isT_list_lst, mIsNet, mWires, mComps, mChain, fAdd_int, fSub_int, fMul_r, fMul_l, fDiv_c, fMod_c, fPow_c, fLt_int, fLe_int, fGt_int, fGe_int, fEq_int, fNe_int, fEq_bl, fNe_bl, fAdd_tup, fAdd_lst, fIx_lst, fIx_tup, fIx_frz, mSl, pNone, pSome, fIsN, fIsB, gN, gT, gsN, gTs, gsNil, gsCons, gIx, mCall, mMeth, isNetD, postC, imm, imms, List.getElem?_cons_zero, List.getElem?_cons_succ, List.set_cons_zero, List.set_cons_succ, Option.bind_some, Option.bind_none, Option.map_some, Option.map_none, Option.or_some, Option.or_none, Option.none_or, List.map_cons, List.map_nil, List.all_cons, List.all_nil, Bool.and_true, Bool.true_and, Bool.and_false, Bool.false_and, if_true, if_false, reduceCtorEq, decide_true, decide_false, ne_eq, not_true_eq_false, not_false_eq_true, List.length_cons, List.length_nil, List.getElem?_nil, List.set_nil, reduceIte, Bool.false_eq_true, Int.reduceNeg, Int.reduceLT, Int.reduceLE, Int.reducePow, Nat.reducePow, Nat.reduceLT, Nat.reduceLeDiff, Nat.reduceAdd, Int.reduceToNat, and_self, Nat.zero_le, Bool.not_true, Bool.not_false, Bool.not_eq_true, zero_add_nat, e1, e2, hb])]
  simp only [sIf, sSet, sRet, sNil, sNo, sApp, sAug, sAsg, sExpr, sFrz, sPar, sRev, sRetN, frz1, mOp, mVar, mC, mB, mNot, mAnd, mOr, mNeg, mIf, bNot, bAnd, bOr, bYes, mTup, mLst, aNil, aCons, nb, mFn, fLen, fList, fTuple, fMax2, fMin2, mIsT, isT_int_int, isT_int_bl, isT_bool_int, isT_bool_bl, isT_tuple_tup, isT_list_lst, mIsNet, mWires, mComps, mChain, fAdd_int, fSub_int, fMul_r, fMul_l, fDiv_c, fMod_c, fPow_c, fLt_int, fLe_int, fGt_int, fGe_int, fEq_int, fNe_int, fEq_bl, fNe_bl, fAdd_tup, fAdd_lst, fIx_lst, fIx_tup, fIx_frz, mSl, pNone, pSome, fIsN, fIsB, gN, gT, gsN, gTs, gsNil, gsCons, gIx, mCall, mMeth, isNetD, postC, imm, imms, List.getElem?_cons_zero, List.getElem?_cons_succ, List.set_cons_zero, List.set_cons_succ, Option.bind_some, Option.bind_none, Option.map_some, Option.map_none, Option.or_some, Option.or_none, Option.none_or, List.map_cons, List.map_nil, List.all_cons, List.all_nil, Bool.and_true, Bool.true_and, Bool.and_false, Bool.false_and, if_true, if_false, reduceCtorEq, decide_true, decide_false, ne_eq, not_true_eq_false, not_false_eq_true, List.length_cons, List.length_nil, List.getElem?_nil, List.set_nil, reduceIte, Bool.false_eq_true, Int.reduceNeg, Int.reduceLT, Int.reduceLE, Int.reducePow, Nat.reducePow, Nat.reduceLT, Nat.reduceLeDiff, Nat.reduceAdd, Int.reduceToNat, and_self, Nat.zero_le, Bool.not_true, Bool.not_false, Bool.not_eq_true, zero_add_nat, f1, f2, l2, hcs]
theorem st_loop {P : Option (D × Bool)} : ∀ (ps : List (Int × Int)) (c : List Int) (cs : List (Int × Int)) (a b : Option (D × Bool)), okP c.length ps → cs.length + ps.length ≤ 10000 →
    ∃ a' b', forGo (gTs 2 (gsCons (gN 3) (gsCons (gN 4) gsNil))) stbody (prs ps) [P, some (.lst (iL c), true), some (.lst (prs cs), true), a, b] = some (.nx [P, some (.lst (iL (runL ps c)), true), some (.lst (prs (cs ++ stC ps c)), true), a', b'])
  | [], c, cs, a, b, _, _ => ⟨a, b, by rw [stC, List.append_nil]; rfl⟩
  | p :: ps, c, cs, a, b, h, hl => by
    rw [List.length_cons] at hl
    have e := stbody_ok (P := P) (c := c) (cs := cs) (p := p) (h p List.mem_cons_self) (by rw [prs_len]; unfold lim; omega)
    obtain ⟨a', b', e'⟩ := st_loop (P := P) ps (cmp1 c p) (cs ++ [((cmp1 c p).getD p.1.toNat 0, (cmp1 c p).getD p.2.toNat 0)]) (some (.int p.1, false)) (some (.int p.2, false)) (by rw [cmp1_len]; exact fun q hq => h q (List.mem_cons_of_mem _ hq)) (by simp; omega)
    refine ⟨a', b', ?_⟩
    show forGo _ stbody (.tup [.int p.1, .int p.2] :: prs ps) _ = _
    unfold forGo
    simp only [sIf, sSet, sRet, sNil, sNo, sApp, sAug, sAsg, sExpr, sFrz, sPar, sRev, sRetN, frz1, mOp, mVar, mC, mB, mNot, mAnd, mOr, mNeg, mIf, bNot, bAnd, bOr, bYes, mTup, mLst, aNil, aCons, nb, mFn, fLen, fList, fTuple, fMax2, fMin2, mIsT, isT_int_int, isT_int_bl, isT_bool_int, isT_bool_bl, isT_tuple_tup, isT_list_lst, mIsNet, mWires, mComps, mChain, fAdd_int, fSub_int, fMul_r, fMul_l, fDiv_c, fMod_c, fPow_c, fLt_int, fLe_int, fGt_int, fGe_int, fEq_int, fNe_int, fEq_bl, fNe_bl, fAdd_tup, fAdd_lst, fIx_lst, fIx_tup, fIx_frz, mSl, pNone, pSome, fIsN, fIsB, gN, gT, gsN, gTs, gsNil, gsCons, gIx, mCall, mMeth, isNetD, postC, imm, imms, List.getElem?_cons_zero, List.getElem?_cons_succ, List.set_cons_zero, List.set_cons_succ, Option.bind_some, Option.bind_none, Option.map_some, Option.map_none, Option.or_some, Option.or_none, Option.none_or, List.map_cons, List.map_nil, List.all_cons, List.all_nil, Bool.and_true, Bool.true_and, Bool.and_false, Bool.false_and, if_true, if_false, reduceCtorEq, decide_true, decide_false, ne_eq, not_true_eq_false, not_false_eq_true, List.length_cons, List.length_nil, List.getElem?_nil, List.set_nil, reduceIte, Bool.false_eq_true, Int.reduceNeg, Int.reduceLT, Int.reduceLE, Int.reducePow, Nat.reducePow, Nat.reduceLT, Nat.reduceLeDiff, Nat.reduceAdd, Int.reduceToNat, and_self, Nat.zero_le, Bool.not_true, Bool.not_false, Bool.not_eq_true, zero_add_nat, e]
    rw [List.append_assoc] at e'
    exact e'
theorem straight_ok {n : Nat} {ps : List (Int × Int)} (hw : 1 ≤ n) (hn : n ≤ 12) (h : okP n ps) (hok : okP n (stC ps (natL (List.range n)))) (hl : ps.length ≤ 10000) : f_straight [.net n (.tup (prs ps))] = some (.tup [.net n (.tup (prs (stC ps (natL (List.range n))))), .tup (iL (runL ps (natL (List.range n))))], false) := by
  have st : ∀ {r : D × Bool}, b_straight [some (.net n (.tup (prs ps)), false), none, none, none, none] = some (.rt r.1 r.2) → f_straight [.net n (.tup (prs ps))] = some r := fun h => rF h
  have nl : (natL (List.range n)).length = n := by rw [natL_len, List.length_range]
  obtain ⟨a, b, e⟩ := st_loop (P := some (.net n (.tup (prs ps)), false)) ps (natL (List.range n)) [] none none (by rw [nl]; exact h) (by simp; omega)
  have hl0 : 0 ≤ lim := Nat.zero_le _
  have hr0 : (0 : Int) ≤ n ∧ (n : Int) ≤ 100000 := by omega
  have tn : ((n : Int)).toNat = n := Int.toNat_natCast n
  have net := fun {a b : Fl} => fNet_ok (w := (n : Int)) (a := a) (b := b) (by omega) hok (by rw [stC_len]; omega)
  have hi : iS false (mComps (mVar 0)) [some (.net n (.tup (prs ps)), false), some (.lst (iL (natL (List.range n))), true), some (.lst [], true), none, none] = some (prs ps) := by simp only [iS, sIf, sSet, sRet, sNil, sNo, sApp, sAug, sAsg, sExpr, sFrz, sPar, sRev, sRetN, frz1, mOp, mVar, mC, mB, mNot, mAnd, mOr, mNeg, mIf, bNot, bAnd, bOr, bYes, mTup, mLst, aNil, aCons, nb, mFn, fLen, fList, fTuple, fMax2, fMin2, mIsT, isT_int_int, isT_int_bl, isT_bool_int, isT_bool_bl, isT_tuple_tup, isT_list_lst, mIsNet, mWires, mComps, mChain, fAdd_int, fSub_int, fMul_r, fMul_l, fDiv_c, fMod_c, fPow_c, fLt_int, fLe_int, fGt_int, fGe_int, fEq_int, fNe_int, fEq_bl, fNe_bl, fAdd_tup, fAdd_lst, fIx_lst, fIx_tup, fIx_frz, mSl, pNone, pSome, fIsN, fIsB, gN, gT, gsN, gTs, gsNil, gsCons, gIx, mCall, mMeth, isNetD, postC, imm, imms, List.getElem?_cons_zero, List.getElem?_cons_succ, List.set_cons_zero, List.set_cons_succ, Option.bind_some, Option.bind_none, Option.map_some, Option.map_none, Option.or_some, Option.or_none, Option.none_or, List.map_cons, List.map_nil, List.all_cons, List.all_nil, Bool.and_true, Bool.true_and, Bool.and_false, Bool.false_and, if_true, if_false, reduceCtorEq, decide_true, decide_false, ne_eq, not_true_eq_false, not_false_eq_true, List.length_cons, List.length_nil, List.getElem?_nil, List.set_nil, reduceIte, Bool.false_eq_true, Int.reduceNeg, Int.reduceLT, Int.reduceLE, Int.reducePow, Nat.reducePow, Nat.reduceLT, Nat.reduceLeDiff, Nat.reduceAdd, Int.reduceToNat, and_self, Nat.zero_le, Bool.not_true, Bool.not_false, Bool.not_eq_true, zero_add_nat]
  refine st ?_
  unfold b_straight
  unfold stbody at e
  rw [seq_nx (by simp only [sIf, sSet, sRet, sNil, sNo, sApp, sAug, sAsg, sExpr, sFrz, sPar, sRev, sRetN, frz1, mOp, mVar, mC, mB, mNot, mAnd, mOr, mNeg, mIf, bNot, bAnd, bOr, bYes, mTup, mLst, aNil, aCons, nb, mFn, fLen, fList, fTuple, fMax2, fMin2, mIsT, isT_int_int, isT_int_bl, isT_bool_int, isT_bool_bl, isT_tuple_tup, isT_list_lst, mIsNet, mWires, mComps, mChain, fAdd_int, fSub_int, fMul_r, fMul_l, fDiv_c, fMod_c, fPow_c, fLt_int, fLe_int, fGt_int, fGe_int, fEq_int, fNe_int, fEq_bl, fNe_bl, fAdd_tup, fAdd_lst, fIx_lst, fIx_tup, fIx_frz, mSl, pNone, pSome, fIsN, fIsB, gN, gT, gsN, gTs, gsNil, gsCons, gIx, mCall, mMeth, isNetD, postC, imm, imms, List.getElem?_cons_zero, List.getElem?_cons_succ, List.set_cons_zero, List.set_cons_succ, Option.bind_some, Option.bind_none, Option.map_some, Option.map_none, Option.or_some, Option.or_none, Option.none_or, List.map_cons, List.map_nil, List.all_cons, List.all_nil, Bool.and_true, Bool.true_and, Bool.and_false, Bool.false_and, if_true, if_false, reduceCtorEq, decide_true, decide_false, ne_eq, not_true_eq_false, not_false_eq_true, List.length_cons, List.length_nil, List.getElem?_nil, List.set_nil, reduceIte, Bool.false_eq_true, Int.reduceNeg, Int.reduceLT, Int.reduceLE, Int.reducePow, Nat.reducePow, Nat.reduceLT, Nat.reduceLeDiff, Nat.reduceAdd, Int.reduceToNat, and_self, Nat.zero_le, Bool.not_true, Bool.not_false, Bool.not_eq_true, zero_add_nat, fRng1, if_pos hr0, tn, rngD_nat]; rfl)]
  rw [seq_nx (by simp only [sIf, sSet, sRet, sNil, sNo, sApp, sAug, sAsg, sExpr, sFrz, sPar, sRev, sRetN, frz1, mOp, mVar, mC, mB, mNot, mAnd, mOr, mNeg, mIf, bNot, bAnd, bOr, bYes, mTup, mLst, aNil, aCons, nb, mFn, fLen, fList, fTuple, fMax2, fMin2, mIsT, isT_int_int, isT_int_bl, isT_bool_int, isT_bool_bl, isT_tuple_tup, isT_list_lst, mIsNet, mWires, mComps, mChain, fAdd_int, fSub_int, fMul_r, fMul_l, fDiv_c, fMod_c, fPow_c, fLt_int, fLe_int, fGt_int, fGe_int, fEq_int, fNe_int, fEq_bl, fNe_bl, fAdd_tup, fAdd_lst, fIx_lst, fIx_tup, fIx_frz, mSl, pNone, pSome, fIsN, fIsB, gN, gT, gsN, gTs, gsNil, gsCons, gIx, mCall, mMeth, isNetD, postC, imm, imms, List.getElem?_cons_zero, List.getElem?_cons_succ, List.set_cons_zero, List.set_cons_succ, Option.bind_some, Option.bind_none, Option.map_some, Option.map_none, Option.or_some, Option.or_none, Option.none_or, List.map_cons, List.map_nil, List.all_cons, List.all_nil, Bool.and_true, Bool.true_and, Bool.and_false, Bool.false_and, if_true, if_false, reduceCtorEq, decide_true, decide_false, ne_eq, not_true_eq_false, not_false_eq_true, List.length_cons, List.length_nil, List.getElem?_nil, List.set_nil, reduceIte, Bool.false_eq_true, Int.reduceNeg, Int.reduceLT, Int.reduceLE, Int.reducePow, Nat.reducePow, Nat.reduceLT, Nat.reduceLeDiff, Nat.reduceAdd, Int.reduceToNat, and_self, Nat.zero_le, Bool.not_true, Bool.not_false, Bool.not_eq_true, zero_add_nat, hl0]; rfl)]
  rw [seq_nx ((for_ok hi).trans e)]
  simp only [sIf, sSet, sRet, sNil, sNo, sApp, sAug, sAsg, sExpr, sFrz, sPar, sRev, sRetN, frz1, mOp, mVar, mC, mB, mNot, mAnd, mOr, mNeg, mIf, bNot, bAnd, bOr, bYes, mTup, mLst, aNil, aCons, nb, mFn, fLen, fList, fTuple, fMax2, fMin2, mIsT, isT_int_int, isT_int_bl, isT_bool_int, isT_bool_bl, isT_tuple_tup, isT_list_lst, mIsNet, mWires, mComps, mChain, fAdd_int, fSub_int, fMul_r, fMul_l, fDiv_c, fMod_c, fPow_c, fLt_int, fLe_int, fGt_int, fGe_int, fEq_int, fNe_int, fEq_bl, fNe_bl, fAdd_tup, fAdd_lst, fIx_lst, fIx_tup, fIx_frz, mSl, pNone, pSome, fIsN, fIsB, gN, gT, gsN, gTs, gsNil, gsCons, gIx, mCall, mMeth, isNetD, postC, imm, imms, List.getElem?_cons_zero, List.getElem?_cons_succ, List.set_cons_zero, List.set_cons_succ, Option.bind_some, Option.bind_none, Option.map_some, Option.map_none, Option.or_some, Option.or_none, Option.none_or, List.map_cons, List.map_nil, List.all_cons, List.all_nil, Bool.and_true, Bool.true_and, Bool.and_false, Bool.false_and, if_true, if_false, reduceCtorEq, decide_true, decide_false, ne_eq, not_true_eq_false, not_false_eq_true, List.length_cons, List.length_nil, List.getElem?_nil, List.set_nil, reduceIte, Bool.false_eq_true, Int.reduceNeg, Int.reduceLT, Int.reduceLE, Int.reducePow, Nat.reducePow, Nat.reduceLT, Nat.reduceLeDiff, Nat.reduceAdd, Int.reduceToNat, and_self, Nat.zero_le, Bool.not_true, Bool.not_false, Bool.not_eq_true, zero_add_nat, List.nil_append, net, lim2]
theorem cmp1_permN {c : List Int} {p : Int × Int} (h : 0 ≤ p.1 ∧ p.1 < c.length ∧ 0 ≤ p.2 ∧ p.2 < c.length ∧ p.1 ≠ p.2) : (cmp1 c p).Perm c := by
  rw [cmp1_eq h]
  obtain ⟨h1, h2, h3, h4, h5⟩ := h
  have l1 : p.1.toNat < c.length := by omega
  have l2 : p.2.toNat < c.length := by omega
  have g1 : c.getD p.1.toNat 0 = c[p.1.toNat] := by rw [List.getD_eq_getElem?_getD, List.getElem?_eq_getElem l1]; rfl
  have g2 : c.getD p.2.toNat 0 = c[p.2.toNat] := by rw [List.getD_eq_getElem?_getD, List.getElem?_eq_getElem l2]; rfl
  split
  · rw [g1, g2]; exact List.set_set_perm l1 l2
  · exact List.Perm.refl _
theorem runL_permN : ∀ (ps : List (Int × Int)) (c : List Int), okP c.length ps → (runL ps c).Perm c
  | [], _, _ => List.Perm.refl _
  | p :: ps, c, h => by
    have h1 := cmp1_permN (h p List.mem_cons_self)
    exact (runL_permN ps (cmp1 c p) (by rw [cmp1_len]; exact fun q hq => h q (List.mem_cons_of_mem _ hq))).trans h1
theorem mn_comm (x y : Int) : (if y < x then y else x) = (if x < y then x else y) := by split <;> split <;> omega
theorem mx_comm (x y : Int) : (if y > x then y else x) = (if x > y then x else y) := by split <;> split <;> omega
/-- the names and the state go along -/
theorem st_inv {n : Nat} : ∀ (ps : List (Int × Int)) (nm s c : List Int), okP n ps → nm.Perm (natL (List.range n)) → s.length = n → c.length = n → (∀ w, w < n → c.getD w 0 = s.getD (nm.getD w 0).toNat 0) →
    okP n (stC ps nm) ∧ stdP (stC ps nm) = true ∧ (∀ w, w < n → (runL ps c).getD w 0 = (runL (stC ps nm) s).getD ((runL ps nm).getD w 0).toNat 0)
  | [], nm, s, c, _, _, _, _, h => ⟨fun p hp => (by cases hp), rfl, h⟩
  | p :: ps, nm, s, c, ho, hp, hs, hc, h => by
    have hnl : nm.length = n := by have := hp.length_eq; rw [natL_len, List.length_range] at this; exact this
    have hop := ho p List.mem_cons_self
    obtain ⟨h1, h2, h3, h4, h5⟩ := hop
    have mem : ∀ {k : Nat}, k < n → 0 ≤ nm.getD k 0 ∧ nm.getD k 0 < n := fun {k} hk => by
      have hm : nm.getD k 0 ∈ nm := by rw [List.getD_eq_getElem?_getD, List.getElem?_eq_getElem (by omega)]; exact List.getElem_mem _
      obtain ⟨q, hq, e⟩ := List.mem_map.mp (hp.mem_iff.mp hm)
      have := List.mem_range.mp hq
      omega
    have nd : nm.Nodup := by
      refine hp.nodup_iff.mpr ?_
      unfold natL
      exact List.Pairwise.map _ (fun a b hab z => hab (by omega)) List.nodup_range
    have inj : ∀ {j k : Nat}, j < n → k < n → nm.getD j 0 = nm.getD k 0 → j = k := fun {j k} hj hk e => by
      rw [List.getD_eq_getElem?_getD, List.getElem?_eq_getElem (show j < nm.length by omega), List.getD_eq_getElem?_getD, List.getElem?_eq_getElem (show k < nm.length by omega)] at e
      exact (List.getElem_inj nd).mp e
    have li : p.1.toNat < n := by omega
    have lj : p.2.toNat < n := by omega
    have hij : p.1.toNat ≠ p.2.toNat := by omega
    have cmpD : ∀ {x : List Int}, x.length = n → ∀ w, (cmp1 x p).getD w 0 = if p.1.toNat = w then (if x.getD p.2.toNat 0 < x.getD p.1.toNat 0 then x.getD p.2.toNat 0 else x.getD p.1.toNat 0) else if p.2.toNat = w then (if x.getD p.2.toNat 0 > x.getD p.1.toNat 0 then x.getD p.2.toNat 0 else x.getD p.1.toNat 0) else x.getD w 0 := fun {x} hx w => by
      unfold cmp1
      simp only []
      rw [getD_set (by rw [List.length_set]; omega), getD_set (by omega)]
    have nmI := cmpD hnl p.1.toNat
    have nmJ := cmpD hnl p.2.toNat
    rw [if_pos rfl] at nmI
    rw [if_neg hij, if_pos rfl] at nmJ
    have mi := mem li
    have mj := mem lj
    have nij : nm.getD p.1.toNat 0 ≠ nm.getD p.2.toNat 0 := fun z => hij (inj li lj z)
    generalize hI : (cmp1 nm p).getD p.1.toNat 0 = I at nmI
    generalize hJ : (cmp1 nm p).getD p.2.toNat 0 = J at nmJ
    generalize ha : nm.getD p.1.toNat 0 = a at nmI nmJ mi nij
    generalize hb : nm.getD p.2.toNat 0 = b at nmI nmJ mj nij
    have hIJ : I < J := by
      by_cases q : b < a
      · rw [if_pos q] at nmI; rw [if_neg (by omega)] at nmJ; omega
      · rw [if_neg q] at nmI; rw [if_pos (by omega)] at nmJ; omega
    have okq : 0 ≤ I ∧ I < n ∧ 0 ≤ J ∧ J < n ∧ I ≠ J := by
      by_cases q : b < a
      · rw [if_pos q] at nmI; rw [if_neg (by omega)] at nmJ; omega
      · rw [if_neg q] at nmI; rw [if_pos (by omega)] at nmJ; omega
    have hstep : ∀ w, w < n → (cmp1 c p).getD w 0 = (cmp1 s (I, J)).getD ((cmp1 nm p).getD w 0).toNat 0 := fun w hw => by
      have sD : ∀ v, (cmp1 s (I, J)).getD v 0 = if I.toNat = v then (if s.getD J.toNat 0 < s.getD I.toNat 0 then s.getD J.toNat 0 else s.getD I.toNat 0) else if J.toNat = v then (if s.getD J.toNat 0 > s.getD I.toNat 0 then s.getD J.toNat 0 else s.getD I.toNat 0) else s.getD v 0 := fun v => by
        unfold cmp1
        simp only []
        rw [getD_set (by rw [List.length_set]; omega), getD_set (by omega)]
      have ci := h p.1.toNat li
      have cj := h p.2.toNat lj
      rw [ha] at ci
      rw [hb] at cj
      have nIJ : ¬ I.toNat = J.toNat := by omega
      rw [cmpD hc w, sD, ci, cj]
      by_cases w1 : p.1.toNat = w
      · subst w1
        rw [if_pos rfl, hI, if_pos rfl]
        by_cases q : b < a
        · rw [if_pos q] at nmI; rw [if_neg (by omega)] at nmJ; rw [nmI, nmJ]; exact mn_comm _ _
        · rw [if_neg q] at nmI; rw [if_pos (by omega)] at nmJ; rw [nmI, nmJ]
      · rw [if_neg w1]
        by_cases w2 : p.2.toNat = w
        · subst w2
          rw [if_pos rfl, hJ, if_neg nIJ, if_pos rfl]
          by_cases q : b < a
          · rw [if_pos q] at nmI; rw [if_neg (by omega)] at nmJ; rw [nmI, nmJ]; exact mx_comm _ _
          · rw [if_neg q] at nmI; rw [if_pos (by omega)] at nmJ; rw [nmI, nmJ]
        · rw [if_neg w2]
          have e0 := cmpD hnl w
          rw [if_neg w1, if_neg w2] at e0
          have mw := mem hw
          have wa : nm.getD w 0 ≠ a := fun z => w1 (inj hw li (by rw [ha]; exact z)).symm
          have wb : nm.getD w 0 ≠ b := fun z => w2 (inj hw lj (by rw [hb]; exact z)).symm
          rw [e0]
          have nI : I.toNat ≠ (nm.getD w 0).toNat := by
            by_cases q : b < a
            · rw [if_pos q] at nmI; omega
            · rw [if_neg q] at nmI; omega
          have nJ : J.toNat ≠ (nm.getD w 0).toNat := by
            by_cases q : b < a
            · rw [if_neg (by omega)] at nmJ; omega
            · rw [if_pos (by omega)] at nmJ; omega
          rw [if_neg nI, if_neg nJ]
          exact h w hw
    obtain ⟨r1, r2, r3⟩ := st_inv ps (cmp1 nm p) (cmp1 s (I, J)) (cmp1 c p) (fun q hq => ho q (List.mem_cons_of_mem _ hq)) ((cmp1_permN (by rw [hnl]; exact ⟨h1, h2, h3, h4, h5⟩)).trans hp) (by rw [cmp1_len]; exact hs) (by rw [cmp1_len]; exact hc) hstep
    refine ⟨?_, ?_, ?_⟩
    · intro q hq
      rw [stC, hI, hJ] at hq
      rcases List.mem_cons.mp hq with rfl | hq
      · exact okq
      · exact r1 q hq
    · rw [stC, hI, hJ]
      unfold stdP at r2 ⊢
      rw [List.all_cons, r2, Bool.and_true]
      exact decide_eq_true hIJ
    · rw [stC, hI, hJ]
      exact r3
end Lw

set_option maxRecDepth 100000
set_option maxHeartbeats 4000000
namespace Lw
open PySem L2 Dt
theorem fNe_tup {xs ys : List Int} {a b : Fl} : fNe (.tup (iL xs), a) (.tup (iL ys), b) = some (.bl (!decide (xs = ys)), .pure) := by
  unfold fNe; rw [okD_tup, okD_tup]; simp only [py, pys_iL, PyData.eqv, eqvAll_int, Bool.and_self, if_true]
/-! some rows -/
theorem rep1 (x : Int) : ∀ k : Nat, (List.replicate k [D.int x]).flatten = iL (List.replicate k x)
  | 0 => rfl
  | k + 1 => by rw [List.replicate_succ, List.flatten_cons, rep1 x k, List.replicate_succ]; rfl
theorem fMulT_one {x k : Int} {a b : Fl} (h0 : -1000 ≤ k) (h1 : k ≤ 1000) : fMulT (.tup [.int x], a) (.int k, b) = some (.tup (iL (List.replicate k.toNat x)), .pure) := by
  unfold fMulT
  simp only []
  rw [if_pos ⟨h0, h1, by simp⟩, rep1]
theorem twelve_at : ∀ {j : Nat}, j < 12 → ∃ c : Int, (0 < c ∧ c < 1073741824) ∧ atI [D.int 1, D.int 2, D.int 4, D.int 8, D.int 16, D.int 32, D.int 64, D.int 128, D.int 256, D.int 512, D.int 1024, D.int 2048] (j : Int) = some (.int c)
  | 0, _ => ⟨1, by decide, rfl⟩
  | 1, _ => ⟨2, by decide, rfl⟩
  | 2, _ => ⟨4, by decide, rfl⟩
  | 3, _ => ⟨8, by decide, rfl⟩
  | 4, _ => ⟨16, by decide, rfl⟩
  | 5, _ => ⟨32, by decide, rfl⟩
  | 6, _ => ⟨64, by decide, rfl⟩
  | 7, _ => ⟨128, by decide, rfl⟩
  | 8, _ => ⟨256, by decide, rfl⟩
  | 9, _ => ⟨512, by decide, rfl⟩
  | 10, _ => ⟨1024, by decide, rfl⟩
  | 11, _ => ⟨2048, by decide, rfl⟩
  | n + 12, h => by omega
def bitE : M := (mOp fMod (mOp fDiv (mOp fIx (mVar 0) (mOp fAdd (mC (.int 18)) (mVar 4))) (mOp fIx (mLst (aCons (mC (.int 1)) (aCons (mC (.int 2)) (aCons (mC (.int 4)) (aCons (mC (.int 8)) (aCons (mC (.int 16)) (aCons (mC (.int 32)) (aCons (mC (.int 64)) (aCons (mC (.int 128)) (aCons (mC (.int 256)) (aCons (mC (.int 512)) (aCons (mC (.int 1024)) (aCons (mC (.int 2048)) aNil))))))))))))) (mVar 5))) (mC (.int 2)))
theorem lcbit {xs : List Int} {x : Int} {i : Int} {A1 A2 A3 : Option (D × Bool)} (e : atI (iL xs) (18 + i) = some (.int x)) : ∀ (ks : List Nat) (o : Option (D × Bool)), (∀ k ∈ ks, k < 12) → ∃ cs : List Int, cs.length = ks.length ∧ lcGo (gN 5) bYes bitE (ks.map fun k : Nat => D.int (0 + (k : Int))) [some (.lst (iL xs), false), A1, A2, A3, some (.int i, false), o] = some (iL cs)
  | [], _, _ => ⟨[], rfl, rfl⟩
  | k :: ks, o, h => by
    obtain ⟨cs, hl, ih⟩ := lcbit (A1 := A1) (A2 := A2) (A3 := A3) e ks o (fun q hq => h q (List.mem_cons_of_mem _ hq))
    obtain ⟨c, hc, e2⟩ := twelve_at (h k List.mem_cons_self)
    have l12 : 12 ≤ lim := by decide
    refine ⟨x / c % 2 :: cs, by simp [hl], ?_⟩
    rw [List.map_cons]
    unfold lcGo
    rw [ih]
    unfold bitE
    simp only [sIf, sSet, sRet, sNil, sNo, sApp, sAug, sAsg, sExpr, sFrz, sPar, sRev, sRetN, frz1, mOp, mVar, mC, mB, mNot, mAnd, mOr, mNeg, mIf, bNot, bAnd, bOr, bYes, mTup, mLst, aNil, aCons, nb, mFn, fLen, fList, fTuple, fMax2, fMin2, mIsT, isT_int_int, isT_int_bl, isT_bool_int, isT_bool_bl, isT_tuple_tup, isT_list_lst, mIsNet, mWires, mComps, mChain, fAdd_int, fSub_int, fMul_r, fMul_l, fDiv_c, fMod_c, fPow_c, fLt_int, fLe_int, fGt_int, fGe_int, fEq_int, fNe_int, fEq_bl, fNe_bl, fAdd_tup, fAdd_lst, fIx_lst, fIx_tup, fIx_frz, mSl, pNone, pSome, fIsN, fIsB, gN, gT, gsN, gTs, gsNil, gsCons, gIx, mCall, mMeth, isNetD, postC, imm, imms, List.getElem?_cons_zero, List.getElem?_cons_succ, List.set_cons_zero, List.set_cons_succ, Option.bind_some, Option.bind_none, Option.map_some, Option.map_none, Option.or_some, Option.or_none, Option.none_or, List.map_cons, List.map_nil, List.all_cons, List.all_nil, Bool.and_true, Bool.true_and, Bool.and_false, Bool.false_and, if_true, if_false, reduceCtorEq, decide_true, decide_false, ne_eq, not_true_eq_false, not_false_eq_true, List.length_cons, List.length_nil, List.getElem?_nil, List.set_nil, reduceIte, Bool.false_eq_true, Int.reduceNeg, Int.reduceLT, Int.reduceLE, Int.reducePow, Nat.reducePow, Nat.reduceLT, Nat.reduceLeDiff, Nat.reduceAdd, Int.reduceToNat, and_self, Nat.zero_le, Bool.not_true, Bool.not_false, Bool.not_eq_true, zero_add_nat, e, e2, hc, l12]
def srb1 : S := (sApp 2 (mOp fAdd (mOp fMulT (mTup (aCons (mC (.int 1)) aNil)) (mOp fSub (mVar 1) (mVar 3))) (mOp fMulT (mTup (aCons (mC (.int 0)) aNil)) (mVar 3))))
def srb2 : S := (sApp 2 (mFn fTuple (aCons (mLc (iR1 (aCons (mVar 1) aNil)) (gN 5) bYes bitE [5]) aNil)))
theorem some_ok {xs : List Int} {n : Nat} (hx : xs.length = 26) (hw : 1 ≤ n) (hn : n ≤ 12) : ∃ (rows : List (List Int)) (fl : Bool), (∀ r ∈ rows, r.length = n) ∧ rows.length ≤ 1000 ∧ f__law_some_rows [.lst (iL xs), .int (n : Int)] = some (.lst (rws rows), fl) := by
  have st : ∀ {r : D × Bool}, b__law_some_rows [some (.lst (iL xs), false), some (.int (n : Int), false), none, none, none, none] = some (.rt r.1 r.2) → f__law_some_rows [.lst (iL xs), .int (n : Int)] = some r := fun h => rF h
  have hl0 : 0 ≤ lim := Nat.zero_le _
  have l1 : 1 ≤ lim := by decide
  by_cases h6 : (n : Int) ≤ 6
  · obtain ⟨fl, e⟩ := plain_ok (n := n) hn
    have hb : decide ((n : Int) ≤ 6) = true := decide_eq_true h6
    have hpw : 2 ^ n ≤ 2 ^ 6 := Nat.pow_le_pow_right (by decide) (by omega)
    refine ⟨plainL n, fl, plainL_mem n, by rw [plainL_len]; omega, st ?_⟩
    have step : ∀ (FP : FD) (R : List D) (fl : Bool), FP [.int (n : Int)] = some (.lst R, fl) → ∀ k : S, sSeq (sIf (mB (mOp fLe (mVar 1) (mC (.int 6)))) (sRet (mCall FP (aCons (mVar 1) aNil))) sNil) k [some (.lst (iL xs), false), some (.int (n : Int), false), none, none, none, none] = some (.rt (.lst R) fl) := fun FP R fl e k => by
      cases fl
      all_goals rw [seq_rt (by simp only [sIf, sSet, sRet, sNil, sNo, sApp, sAug, sAsg, sExpr, sFrz, sPar, sRev, sRetN, frz1, mOp, mVar, mC, mB, mNot, mAnd, mOr, mNeg, mIf, bNot, bAnd, bOr, bYes, mTup, mLst, aNil, aCons, nb, mFn, fLen, fList, fTuple, fMax2, fMin2, mIsT, isT_int_int, isT_int_bl, isT_bool_int, isT_bool_bl, isT_tuple_tup, isT_list_lst, mIsNet, mWires, mComps, mChain, fAdd_int, fSub_int, fMul_r, fMul_l, fDiv_c, fMod_c, fPow_c, fLt_int, fLe_int, fGt_int, fGe_int, fEq_int, fNe_int, fEq_bl, fNe_bl, fAdd_tup, fAdd_lst, fIx_lst, fIx_tup, fIx_frz, mSl, pNone, pSome, fIsN, fIsB, gN, gT, gsN, gTs, gsNil, gsCons, gIx, mCall, mMeth, isNetD, postC, imm, imms, List.getElem?_cons_zero, List.getElem?_cons_succ, List.set_cons_zero, List.set_cons_succ, Option.bind_some, Option.bind_none, Option.map_some, Option.map_none, Option.or_some, Option.or_none, Option.none_or, List.map_cons, List.map_nil, List.all_cons, List.all_nil, Bool.and_true, Bool.true_and, Bool.and_false, Bool.false_and, if_true, if_false, reduceCtorEq, decide_true, decide_false, ne_eq, not_true_eq_false, not_false_eq_true, List.length_cons, List.length_nil, List.getElem?_nil, List.set_nil, reduceIte, Bool.false_eq_true, Int.reduceNeg, Int.reduceLT, Int.reduceLE, Int.reducePow, Nat.reducePow, Nat.reduceLT, Nat.reduceLeDiff, Nat.reduceAdd, Int.reduceToNat, and_self, Nat.zero_le, Bool.not_true, Bool.not_false, Bool.not_eq_true, zero_add_nat, hb, e]; rfl)]
    exact step _ _ _ e _
  · have hb : decide ((n : Int) ≤ 6) = false := decide_eq_false h6
    have c1 : ((n + 1 : Nat) : Int) = (n : Int) + 1 := by omega
    have hr1 : iR1 (aCons (mOp fAdd (mVar 1) (mC (.int 1))) aNil) [some (.lst (iL xs), false), some (.int (n : Int), false), some (.lst [], true), none, none, none] = some (rngD 0 (n + 1)) := iR1_ok (a := .pure) (by simp only [sIf, sSet, sRet, sNil, sNo, sApp, sAug, sAsg, sExpr, sFrz, sPar, sRev, sRetN, frz1, mOp, mVar, mC, mB, mNot, mAnd, mOr, mNeg, mIf, bNot, bAnd, bOr, bYes, mTup, mLst, aNil, aCons, nb, mFn, fLen, fList, fTuple, fMax2, fMin2, mIsT, isT_int_int, isT_int_bl, isT_bool_int, isT_bool_bl, isT_tuple_tup, isT_list_lst, mIsNet, mWires, mComps, mChain, fAdd_int, fSub_int, fMul_r, fMul_l, fDiv_c, fMod_c, fPow_c, fLt_int, fLe_int, fGt_int, fGe_int, fEq_int, fNe_int, fEq_bl, fNe_bl, fAdd_tup, fAdd_lst, fIx_lst, fIx_tup, fIx_frz, mSl, pNone, pSome, fIsN, fIsB, gN, gT, gsN, gTs, gsNil, gsCons, gIx, mCall, mMeth, isNetD, postC, imm, imms, List.getElem?_cons_zero, List.getElem?_cons_succ, List.set_cons_zero, List.set_cons_succ, Option.bind_some, Option.bind_none, Option.map_some, Option.map_none, Option.or_some, Option.or_none, Option.none_or, List.map_cons, List.map_nil, List.all_cons, List.all_nil, Bool.and_true, Bool.true_and, Bool.and_false, Bool.false_and, if_true, if_false, reduceCtorEq, decide_true, decide_false, ne_eq, not_true_eq_false, not_false_eq_true, List.length_cons, List.length_nil, List.getElem?_nil, List.set_nil, reduceIte, Bool.false_eq_true, Int.reduceNeg, Int.reduceLT, Int.reduceLE, Int.reducePow, Nat.reducePow, Nat.reduceLT, Nat.reduceLeDiff, Nat.reduceAdd, Int.reduceToNat, and_self, Nat.zero_le, Bool.not_true, Bool.not_false, Bool.not_eq_true, zero_add_nat, c1]) (by omega)
    have loop1 := forGo0 (g := gN 3) (m := srb1)
      (fun j ρ => ∃ (rows : List (List Int)) (o : Option (D × Bool)), rows.length = j ∧ (∀ r ∈ rows, r.length = n) ∧ ρ = [some (.lst (iL xs), false), some (.int (n : Int), false), some (.lst (rws rows), true), o, none, none])
      (ds := rngD 0 (n + 1)) (ρ := [some (.lst (iL xs), false), some (.int (n : Int), false), some (.lst [], true), none, none, none]) ⟨[], none, rfl, (fun r hr => by cases hr), rfl⟩ ?_
    · obtain ⟨ρ1, g1, rows1, o1, hl1, hm1, rfl⟩ := loop1
      have hrl : (rngD 0 (n + 1)).length = n + 1 := by simp [rngD]
      rw [hrl] at hl1
      have hr2 : iR1 (aCons (mC (.int 8)) aNil) [some (.lst (iL xs), false), some (.int (n : Int), false), some (.lst (rws rows1), true), o1, none, none] = some (rngD 0 8) := iR1_ok (a := .pure) (by simp only [sIf, sSet, sRet, sNil, sNo, sApp, sAug, sAsg, sExpr, sFrz, sPar, sRev, sRetN, frz1, mOp, mVar, mC, mB, mNot, mAnd, mOr, mNeg, mIf, bNot, bAnd, bOr, bYes, mTup, mLst, aNil, aCons, nb, mFn, fLen, fList, fTuple, fMax2, fMin2, mIsT, isT_int_int, isT_int_bl, isT_bool_int, isT_bool_bl, isT_tuple_tup, isT_list_lst, mIsNet, mWires, mComps, mChain, fAdd_int, fSub_int, fMul_r, fMul_l, fDiv_c, fMod_c, fPow_c, fLt_int, fLe_int, fGt_int, fGe_int, fEq_int, fNe_int, fEq_bl, fNe_bl, fAdd_tup, fAdd_lst, fIx_lst, fIx_tup, fIx_frz, mSl, pNone, pSome, fIsN, fIsB, gN, gT, gsN, gTs, gsNil, gsCons, gIx, mCall, mMeth, isNetD, postC, imm, imms, List.getElem?_cons_zero, List.getElem?_cons_succ, List.set_cons_zero, List.set_cons_succ, Option.bind_some, Option.bind_none, Option.map_some, Option.map_none, Option.or_some, Option.or_none, Option.none_or, List.map_cons, List.map_nil, List.all_cons, List.all_nil, Bool.and_true, Bool.true_and, Bool.and_false, Bool.false_and, if_true, if_false, reduceCtorEq, decide_true, decide_false, ne_eq, not_true_eq_false, not_false_eq_true, List.length_cons, List.length_nil, List.getElem?_nil, List.set_nil, reduceIte, Bool.false_eq_true, Int.reduceNeg, Int.reduceLT, Int.reduceLE, Int.reducePow, Nat.reducePow, Nat.reduceLT, Nat.reduceLeDiff, Nat.reduceAdd, Int.reduceToNat, and_self, Nat.zero_le, Bool.not_true, Bool.not_false, Bool.not_eq_true, zero_add_nat]; rfl) (by omega)
      have loop2 := forGo0 (g := gN 4) (m := srb2)
        (fun j ρ => ∃ (rows : List (List Int)) (o : Option (D × Bool)), rows.length = n + 1 + j ∧ (∀ r ∈ rows, r.length = n) ∧ ρ = [some (.lst (iL xs), false), some (.int (n : Int), false), some (.lst (rws rows), true), o1, o, none])
        (ds := rngD 0 8) (ρ := [some (.lst (iL xs), false), some (.int (n : Int), false), some (.lst (rws rows1), true), o1, none, none]) ⟨rows1, none, hl1, hm1, rfl⟩ ?_
      · obtain ⟨ρ2, g2, rows2, o2, hl2, hm2, rfl⟩ := loop2
        have hrl8 : (rngD 0 8).length = 8 := by simp [rngD]
        rw [hrl8] at hl2
        unfold srb1 at g1
        unfold srb2 bitE at g2
        refine ⟨rows2, true, hm2, by omega, st ?_⟩
        have step2 : ∀ (M k : S), sSeq (sIf (mB (mOp fLe (mVar 1) (mC (.int 6)))) M sNil) k [some (.lst (iL xs), false), some (.int (n : Int), false), none, none, none, none] = k [some (.lst (iL xs), false), some (.int (n : Int), false), none, none, none, none] := fun M k => seq_nx (by simp only [sIf, sSet, sRet, sNil, sNo, sApp, sAug, sAsg, sExpr, sFrz, sPar, sRev, sRetN, frz1, mOp, mVar, mC, mB, mNot, mAnd, mOr, mNeg, mIf, bNot, bAnd, bOr, bYes, mTup, mLst, aNil, aCons, nb, mFn, fLen, fList, fTuple, fMax2, fMin2, mIsT, isT_int_int, isT_int_bl, isT_bool_int, isT_bool_bl, isT_tuple_tup, isT_list_lst, mIsNet, mWires, mComps, mChain, fAdd_int, fSub_int, fMul_r, fMul_l, fDiv_c, fMod_c, fPow_c, fLt_int, fLe_int, fGt_int, fGe_int, fEq_int, fNe_int, fEq_bl, fNe_bl, fAdd_tup, fAdd_lst, fIx_lst, fIx_tup, fIx_frz, mSl, pNone, pSome, fIsN, fIsB, gN, gT, gsN, gTs, gsNil, gsCons, gIx, mCall, mMeth, isNetD, postC, imm, imms, List.getElem?_cons_zero, List.getElem?_cons_succ, List.set_cons_zero, List.set_cons_succ, Option.bind_some, Option.bind_none, Option.map_some, Option.map_none, Option.or_some, Option.or_none, Option.none_or, List.map_cons, List.map_nil, List.all_cons, List.all_nil, Bool.and_true, Bool.true_and, Bool.and_false, Bool.false_and, if_true, if_false, reduceCtorEq, decide_true, decide_false, ne_eq, not_true_eq_false, not_false_eq_true, List.length_cons, List.length_nil, List.getElem?_nil, List.set_nil, reduceIte, Bool.false_eq_true, Int.reduceNeg, Int.reduceLT, Int.reduceLE, Int.reducePow, Nat.reducePow, Nat.reduceLT, Nat.reduceLeDiff, Nat.reduceAdd, Int.reduceToNat, and_self, Nat.zero_le, Bool.not_true, Bool.not_false, Bool.not_eq_true, zero_add_nat, hb])
        have step3 : ∀ k : S, sSeq (sSet 2 (mLst aNil)) k [some (.lst (iL xs), false), some (.int (n : Int), false), none, none, none, none] = k [some (.lst (iL xs), false), some (.int (n : Int), false), some (.lst [], true), none, none, none] := fun k => seq_nx (by simp only [sIf, sSet, sRet, sNil, sNo, sApp, sAug, sAsg, sExpr, sFrz, sPar, sRev, sRetN, frz1, mOp, mVar, mC, mB, mNot, mAnd, mOr, mNeg, mIf, bNot, bAnd, bOr, bYes, mTup, mLst, aNil, aCons, nb, mFn, fLen, fList, fTuple, fMax2, fMin2, mIsT, isT_int_int, isT_int_bl, isT_bool_int, isT_bool_bl, isT_tuple_tup, isT_list_lst, mIsNet, mWires, mComps, mChain, fAdd_int, fSub_int, fMul_r, fMul_l, fDiv_c, fMod_c, fPow_c, fLt_int, fLe_int, fGt_int, fGe_int, fEq_int, fNe_int, fEq_bl, fNe_bl, fAdd_tup, fAdd_lst, fIx_lst, fIx_tup, fIx_frz, mSl, pNone, pSome, fIsN, fIsB, gN, gT, gsN, gTs, gsNil, gsCons, gIx, mCall, mMeth, isNetD, postC, imm, imms, List.getElem?_cons_zero, List.getElem?_cons_succ, List.set_cons_zero, List.set_cons_succ, Option.bind_some, Option.bind_none, Option.map_some, Option.map_none, Option.or_some, Option.or_none, Option.none_or, List.map_cons, List.map_nil, List.all_cons, List.all_nil, Bool.and_true, Bool.true_and, Bool.and_false, Bool.false_and, if_true, if_false, reduceCtorEq, decide_true, decide_false, ne_eq, not_true_eq_false, not_false_eq_true, List.length_cons, List.length_nil, List.getElem?_nil, List.set_nil, reduceIte, Bool.false_eq_true, Int.reduceNeg, Int.reduceLT, Int.reduceLE, Int.reducePow, Nat.reducePow, Nat.reduceLT, Nat.reduceLeDiff, Nat.reduceAdd, Int.reduceToNat, and_self, Nat.zero_le, Bool.not_true, Bool.not_false, Bool.not_eq_true, zero_add_nat, hl0])
        have step4 : ∀ (R : List D) (o1 o2 : Option (D × Bool)), sRet (mVar 2) [some (.lst (iL xs), false), some (.int (n : Int), false), some (.lst R, true), o1, o2, none] = some (.rt (.lst R) true) := fun R o1 o2 => by simp only [sIf, sSet, sRet, sNil, sNo, sApp, sAug, sAsg, sExpr, sFrz, sPar, sRev, sRetN, frz1, mOp, mVar, mC, mB, mNot, mAnd, mOr, mNeg, mIf, bNot, bAnd, bOr, bYes, mTup, mLst, aNil, aCons, nb, mFn, fLen, fList, fTuple, fMax2, fMin2, mIsT, isT_int_int, isT_int_bl, isT_bool_int, isT_bool_bl, isT_tuple_tup, isT_list_lst, mIsNet, mWires, mComps, mChain, fAdd_int, fSub_int, fMul_r, fMul_l, fDiv_c, fMod_c, fPow_c, fLt_int, fLe_int, fGt_int, fGe_int, fEq_int, fNe_int, fEq_bl, fNe_bl, fAdd_tup, fAdd_lst, fIx_lst, fIx_tup, fIx_frz, mSl, pNone, pSome, fIsN, fIsB, gN, gT, gsN, gTs, gsNil, gsCons, gIx, mCall, mMeth, isNetD, postC, imm, imms, List.getElem?_cons_zero, List.getElem?_cons_succ, List.set_cons_zero, List.set_cons_succ, Option.bind_some, Option.bind_none, Option.map_some, Option.map_none, Option.or_some, Option.or_none, Option.none_or, List.map_cons, List.map_nil, List.all_cons, List.all_nil, Bool.and_true, Bool.true_and, Bool.and_false, Bool.false_and, if_true, if_false, reduceCtorEq, decide_true, decide_false, ne_eq, not_true_eq_false, not_false_eq_true, List.length_cons, List.length_nil, List.getElem?_nil, List.set_nil, reduceIte, Bool.false_eq_true, Int.reduceNeg, Int.reduceLT, Int.reduceLE, Int.reducePow, Nat.reducePow, Nat.reduceLT, Nat.reduceLeDiff, Nat.reduceAdd, Int.reduceToNat, and_self, Nat.zero_le, Bool.not_true, Bool.not_false, Bool.not_eq_true, zero_add_nat]
        unfold b__law_some_rows
        rw [step2, step3, seq_nx ((for_ok hr1).trans g1), seq_nx ((for_ok hr2).trans g2)]
        exact step4 _ _ _
      · rintro j d ρ hd ⟨rows, o, hlen, hm, rfl⟩
        obtain ⟨hj, rfl⟩ := rng_get hd
        rw [Int.zero_add]
        obtain ⟨x, e1, _, _⟩ := at_nn (xs := xs) (i := 18 + (j : Int)) (by omega) (by omega)
        obtain ⟨cs, hcl, ec⟩ := lcbit (A1 := some (.int (n : Int), false)) (A2 := some (.lst (rws rows), true)) (A3 := o1) e1 (List.range n) none (fun k hk => by have := List.mem_range.mp hk; omega)
        rw [List.length_range] at hcl
        have hrs : (rws rows).length < lim := by rw [rws_len]; unfold lim; omega
        have hr3 : iR1 (aCons (mVar 1) aNil) [some (.lst (iL xs), false), some (.int (n : Int), false), some (.lst (rws rows), true), o1, some (.int (j : Int), false), none] = some (rngD 0 n) := iR1_ok (a := .pure) (by simp only [sIf, sSet, sRet, sNil, sNo, sApp, sAug, sAsg, sExpr, sFrz, sPar, sRev, sRetN, frz1, mOp, mVar, mC, mB, mNot, mAnd, mOr, mNeg, mIf, bNot, bAnd, bOr, bYes, mTup, mLst, aNil, aCons, nb, mFn, fLen, fList, fTuple, fMax2, fMin2, mIsT, isT_int_int, isT_int_bl, isT_bool_int, isT_bool_bl, isT_tuple_tup, isT_list_lst, mIsNet, mWires, mComps, mChain, fAdd_int, fSub_int, fMul_r, fMul_l, fDiv_c, fMod_c, fPow_c, fLt_int, fLe_int, fGt_int, fGe_int, fEq_int, fNe_int, fEq_bl, fNe_bl, fAdd_tup, fAdd_lst, fIx_lst, fIx_tup, fIx_frz, mSl, pNone, pSome, fIsN, fIsB, gN, gT, gsN, gTs, gsNil, gsCons, gIx, mCall, mMeth, isNetD, postC, imm, imms, List.getElem?_cons_zero, List.getElem?_cons_succ, List.set_cons_zero, List.set_cons_succ, Option.bind_some, Option.bind_none, Option.map_some, Option.map_none, Option.or_some, Option.or_none, Option.none_or, List.map_cons, List.map_nil, List.all_cons, List.all_nil, Bool.and_true, Bool.true_and, Bool.and_false, Bool.false_and, if_true, if_false, reduceCtorEq, decide_true, decide_false, ne_eq, not_true_eq_false, not_false_eq_true, List.length_cons, List.length_nil, List.getElem?_nil, List.set_nil, reduceIte, Bool.false_eq_true, Int.reduceNeg, Int.reduceLT, Int.reduceLE, Int.reducePow, Nat.reducePow, Nat.reduceLT, Nat.reduceLeDiff, Nat.reduceAdd, Int.reduceToNat, and_self, Nat.zero_le, Bool.not_true, Bool.not_false, Bool.not_eq_true, zero_add_nat]) (by omega)
        have hrn : (rngD 0 n).length ≤ lim := by simp only [rngD, List.length_map, List.length_range]; unfold lim; omega
        have e4 : mLc (iR1 (aCons (mVar 1) aNil)) (gN 5) bYes bitE [5] [some (.lst (iL xs), false), some (.int (n : Int), false), some (.lst (rws rows), true), o1, some (.int (j : Int), false), none] = some (.lst (iL cs), .fresh) := by
          unfold mLc
          rw [hr3, Option.bind_some, if_pos hrn]
          show Option.map _ (lcGo (gN 5) bYes bitE ((List.range n).map fun k : Nat => D.int (0 + (k : Int))) _) = _
          simp only [wipeE, List.set_cons_succ, List.set_cons_zero]
          rw [ec]; rfl
        have er : rws rows ++ [D.tup (iL cs)] = rws (rows ++ [cs]) := by simp
        refine ⟨[some (.lst (iL xs), false), some (.int (n : Int), false), some (.lst (rws rows), true), o1, some (.int (j : Int), false), none], [some (.lst (iL xs), false), some (.int (n : Int), false), some (.lst (rws (rows ++ [cs])), true), o1, some (.int (j : Int), false), none], by simp only [gN, List.set_cons_succ, List.set_cons_zero], ?_, rows ++ [cs], _, by simp; omega, ?_, rfl⟩
        · unfold srb2
          simp only [sApp, mFn, aCons, e4, aNil, fTuple, Option.bind_some, Option.map_some, reduceCtorEq, if_false, List.getElem?_cons_succ, List.getElem?_cons_zero, hrs, if_true, List.set_cons_succ, List.set_cons_zero, er]
        · intro r hr
          rcases List.mem_append.mp hr with h | h
          · exact hm r h
          · simp only [List.mem_singleton] at h; subst h; exact hcl
    · rintro j d ρ hd ⟨rows, o, hlen, hm, rfl⟩
      obtain ⟨hj, rfl⟩ := rng_get hd
      rw [Int.zero_add]
      have hrs : (rws rows).length < lim := by rw [rws_len]; unfold lim; omega
      have f1 := fun {a b : Fl} => fMulT_one (x := 1) (k := (n : Int) - (j : Int)) (a := a) (b := b) (by omega) (by omega)
      have f0 := fun {a b : Fl} => fMulT_one (x := 0) (k := (j : Int)) (a := a) (b := b) (by omega) (by omega)
      have ia : ∀ a b : List Int, iL a ++ iL b = iL (a ++ b) := fun a b => by simp
      have la : (iL (List.replicate ((n : Int) - (j : Int)).toNat 1)).length + (iL (List.replicate ((j : Int)).toNat 0)).length ≤ lim := by rw [iL_len, iL_len, List.length_replicate, List.length_replicate]; unfold lim; omega
      have er : ∀ cs : List Int, rws rows ++ [D.tup (iL cs)] = rws (rows ++ [cs]) := fun cs => by simp
      refine ⟨[some (.lst (iL xs), false), some (.int (n : Int), false), some (.lst (rws rows), true), some (.int (j : Int), false), none, none], [some (.lst (iL xs), false), some (.int (n : Int), false), some (.lst (rws (rows ++ [List.replicate ((n : Int) - (j : Int)).toNat 1 ++ List.replicate ((j : Int)).toNat 0])), true), some (.int (j : Int), false), none, none], by simp only [gN, List.set_cons_succ, List.set_cons_zero], ?_, _, _, by simp [hlen], ?_, rfl⟩
      · unfold srb1
        simp only [sIf, sSet, sRet, sNil, sNo, sApp, sAug, sAsg, sExpr, sFrz, sPar, sRev, sRetN, frz1, mOp, mVar, mC, mB, mNot, mAnd, mOr, mNeg, mIf, bNot, bAnd, bOr, bYes, mTup, mLst, aNil, aCons, nb, mFn, fLen, fList, fTuple, fMax2, fMin2, mIsT, isT_int_int, isT_int_bl, isT_bool_int, isT_bool_bl, isT_tuple_tup, isT_list_lst, mIsNet, mWires, mComps, mChain, fAdd_int, fSub_int, fMul_r, fMul_l, fDiv_c, fMod_c, fPow_c, fLt_int, fLe_int, fGt_int, fGe_int, fEq_int, fNe_int, fEq_bl, fNe_bl, fAdd_tup, fAdd_lst, fIx_lst, fIx_tup, fIx_frz, mSl, pNone, pSome, fIsN, fIsB, gN, gT, gsN, gTs, gsNil, gsCons, gIx, mCall, mMeth, isNetD, postC, imm, imms, List.getElem?_cons_zero, List.getElem?_cons_succ, List.set_cons_zero, List.set_cons_succ, Option.bind_some, Option.bind_none, Option.map_some, Option.map_none, Option.or_some, Option.or_none, Option.none_or, List.map_cons, List.map_nil, List.all_cons, List.all_nil, Bool.and_true, Bool.true_and, Bool.and_false, Bool.false_and, if_true, if_false, reduceCtorEq, decide_true, decide_false, ne_eq, not_true_eq_false, not_false_eq_true, List.length_cons, List.length_nil, List.getElem?_nil, List.set_nil, reduceIte, Bool.false_eq_true, Int.reduceNeg, Int.reduceLT, Int.reduceLE, Int.reducePow, Nat.reducePow, Nat.reduceLT, Nat.reduceLeDiff, Nat.reduceAdd, Int.reduceToNat, and_self, Nat.zero_le, Bool.not_true, Bool.not_false, Bool.not_eq_true, zero_add_nat, l1, f1, f0, if_pos la, ia, hrs, er]
      · intro r hr
        rcases List.mem_append.mp hr with h | h
        · exact hm r h
        · simp only [List.mem_singleton] at h; subst h; rw [List.length_append, List.length_replicate, List.length_replicate]; omega
end Lw

set_option maxRecDepth 100000
set_option maxHeartbeats 4000000
namespace Lw
open PySem L2 Dt
theorem srtI_eq {a b : List Int} (h : a.Perm b) : srtI a = srtI b := srt_unique ((srtI_perm a).trans (h.trans (srtI_perm b).symm)) (srtI_srt a) (srtI_srt b)
theorem cmp1_srt {c : List Int} {p : Int × Int} (h : 0 ≤ p.1 ∧ p.1 < c.length ∧ 0 ≤ p.2 ∧ p.2 < c.length ∧ p.1 ≠ p.2) (hs : c.Pairwise (· ≤ ·)) (hp : p.1 < p.2) : cmp1 c p = c := by
  rw [cmp1_eq h]
  obtain ⟨h1, h2, h3, h4, h5⟩ := h
  have l1 : p.1.toNat < c.length := by omega
  have l2 : p.2.toNat < c.length := by omega
  have g1 : c.getD p.1.toNat 0 = c[p.1.toNat] := by rw [List.getD_eq_getElem?_getD, List.getElem?_eq_getElem l1]; rfl
  have g2 : c.getD p.2.toNat 0 = c[p.2.toNat] := by rw [List.getD_eq_getElem?_getD, List.getElem?_eq_getElem l2]; rfl
  have := List.pairwise_iff_getElem.mp hs _ _ l1 l2 (by omega)
  rw [if_neg (by rw [g1, g2]; omega)]
theorem runL_srt : ∀ (ps : List (Int × Int)) (c : List Int), okP c.length ps → c.Pairwise (· ≤ ·) → (∀ p ∈ ps, p.1 < p.2) → runL ps c = c
  | [], _, _, _, _ => rfl
  | p :: ps, c, h, hs, hp => by
    show runL ps (cmp1 c p) = c
    rw [cmp1_srt (h p List.mem_cons_self) hs (hp p List.mem_cons_self)]
    exact runL_srt ps c (fun q hq => h q (List.mem_cons_of_mem _ hq)) hs fun q hq => hp q (List.mem_cons_of_mem _ hq)
def mmP (ps : List (Int × Int)) : List (Int × Int) := ps.map fun p => (if p.2 < p.1 then p.2 else p.1, if p.2 > p.1 then p.2 else p.1)
theorem mmP_len {ps : List (Int × Int)} : (mmP ps).length = ps.length := List.length_map _
theorem mmP_lt {w : Int} {ps : List (Int × Int)} (h : okP w ps) : ∀ p ∈ mmP ps, p.1 < p.2 := fun p hp => by
  obtain ⟨q, hq, rfl⟩ := List.mem_map.mp hp
  obtain ⟨_, _, _, _, h5⟩ := h q hq
  show (if q.2 < q.1 then q.2 else q.1) < (if q.2 > q.1 then q.2 else q.1)
  by_cases h1 : q.2 < q.1
  · rw [if_pos h1, if_neg (by omega)]; exact h1
  · rw [if_neg h1, if_pos (by omega)]; omega
theorem mmP_ok {w : Int} {ps : List (Int × Int)} (h : okP w ps) : okP w (mmP ps) := fun p hp => by
  have hlt := mmP_lt h p hp
  obtain ⟨q, hq, rfl⟩ := List.mem_map.mp hp
  obtain ⟨h1, h2, h3, h4, h5⟩ := h q hq
  refine ⟨?_, ?_, ?_, ?_, by omega⟩
  · show 0 ≤ (if q.2 < q.1 then q.2 else q.1); split <;> omega
  · show (if q.2 < q.1 then q.2 else q.1) < w; split <;> omega
  · show 0 ≤ (if q.2 > q.1 then q.2 else q.1); split <;> omega
  · show (if q.2 > q.1 then q.2 else q.1) < w; split <;> omega
theorem mmP_std {w : Int} {ps : List (Int × Int)} (h : okP w ps) : stdP (mmP ps) = true := by
  unfold stdP
  rw [List.all_eq_true]
  exact fun p hp => decide_eq_true (mmP_lt h p hp)
theorem fMin1_two {i j : Int} {a : Fl} : fMin1 [(.tup [.int i, .int j], a)] = some (.int (if j < i then j else i), .pure) := rfl
theorem fMax1_two {i j : Int} {a : Fl} : fMax1 [(.tup [.int i, .int j], a)] = some (.int (if j > i then j else i), .pure) := rfl
theorem fSorted_tup {xs : List Int} {a : Fl} : fSorted [(.tup (iL xs), a)] = some (.lst (iL (srtI xs)), .fresh) := by
  unfold fSorted; simp only [getIs_int, Option.map_some]
theorem fSorted_lst {xs : List Int} {a : Fl} : fSorted [(.lst (iL xs), a)] = some (.lst (iL (srtI xs)), .fresh) := by
  unfold fSorted; simp only [getIs_int, Option.map_some]
theorem srtI_len (xs : List Int) : (srtI xs).length = xs.length := (srtI_perm xs).length_eq
/-- straight, all that is asked -/
theorem rid {n w : Nat} (h : w < n) : ((natL (List.range n)).getD w 0).toNat = w := by
  rw [natL_getD, List.getD_eq_getElem?_getD, List.getElem?_range h]
  show ((w : Int)).toNat = w
  omega
theorem nlr (n : Nat) : (natL (List.range n)).length = n := by rw [natL_len, List.length_range]
theorem natL_srt (n : Nat) : (natL (List.range n)).Pairwise (· ≤ ·) := by
  unfold natL
  exact List.Pairwise.map _ (fun a b (hab : a < b) => by omega) List.pairwise_lt_range
theorem st_all {n : Nat} {ps : List (Int × Int)} (h : okP n ps) : okP n (stC ps (natL (List.range n))) ∧ stdP (stC ps (natL (List.range n))) = true ∧
    (∀ k, k < n → 0 ≤ (runL ps (natL (List.range n))).getD k 0 ∧ (runL ps (natL (List.range n))).getD k 0 < n) ∧ srtI (runL ps (natL (List.range n))) = natL (List.range n) ∧
    (∀ r : List Int, r.length = n → (List.range n).map (fun w => (runL (stC ps (natL (List.range n))) r).getD ((runL ps (natL (List.range n))).getD w 0).toNat 0) = runL ps r) := by
  have inv := fun (r : List Int) (hr : r.length = n) => st_inv ps (natL (List.range n)) r r h (List.Perm.refl _) hr hr (fun w hw => by rw [rid hw])
  obtain ⟨a1, a2, _⟩ := inv (List.replicate n 0) List.length_replicate
  have hp := runL_permN ps (natL (List.range n)) (by rw [nlr]; exact h)
  have hl : (runL ps (natL (List.range n))).length = n := by rw [runL_len, nlr]
  refine ⟨a1, a2, fun k hk => ?_, ?_, fun r hr => ?_⟩
  · have hm : (runL ps (natL (List.range n))).getD k 0 ∈ runL ps (natL (List.range n)) := by rw [List.getD_eq_getElem?_getD, List.getElem?_eq_getElem (by omega)]; exact List.getElem_mem _
    obtain ⟨q, hq, e⟩ := List.mem_map.mp (hp.mem_iff.mp hm)
    have := List.mem_range.mp hq
    omega
  · exact srt_unique ((srtI_perm _).trans hp) (srtI_srt _) (natL_srt n)
  · have h3 := (inv r hr).2.2
    apply List.ext_getElem
    · rw [List.length_map, List.length_range, runL_len, hr]
    · intro i h1 h2
      rw [List.length_map, List.length_range] at h1
      rw [List.getElem_map, List.getElem_range, ← h3 i h1, List.getD_eq_getElem?_getD, List.getElem?_eq_getElem h2]
      rfl
end Lw

set_option maxRecDepth 100000
set_option maxHeartbeats 4000000
namespace Lw
open PySem L2 Dt
/-! growing functions of rows -/
theorem cmp1_map {g : Int → Int} (hg : ∀ x y, x ≤ y → g x ≤ g y) {c : List Int} {p : Int × Int} (h : 0 ≤ p.1 ∧ p.1 < c.length ∧ 0 ≤ p.2 ∧ p.2 < c.length ∧ p.1 ≠ p.2) : cmp1 (c.map g) p = (cmp1 c p).map g := by
  obtain ⟨h1, h2, h3, h4, h5⟩ := h
  have l1 : p.1.toNat < c.length := by omega
  have l2 : p.2.toNat < c.length := by omega
  have g1 : (c.map g).getD p.1.toNat 0 = g (c.getD p.1.toNat 0) := by
    rw [List.getD_eq_getElem?_getD, List.getD_eq_getElem?_getD, List.getElem?_map, List.getElem?_eq_getElem l1]; rfl
  have g2 : (c.map g).getD p.2.toNat 0 = g (c.getD p.2.toNat 0) := by
    rw [List.getD_eq_getElem?_getD, List.getD_eq_getElem?_getD, List.getElem?_map, List.getElem?_eq_getElem l2]; rfl
  unfold cmp1
  simp only [g1, g2]
  generalize c.getD p.1.toNat 0 = x
  generalize c.getD p.2.toNat 0 = y
  have e1 : (if g y > g x then g y else g x) = g (if y > x then y else x) := by
    by_cases hxy : y > x
    · rw [if_pos hxy]
      have := hg x y (by omega)
      split <;> omega
    · rw [if_neg hxy]
      have := hg y x (by omega)
      split <;> omega
  have e2 : (if g y < g x then g y else g x) = g (if y < x then y else x) := by
    by_cases hxy : y < x
    · rw [if_pos hxy]
      have := hg y x (by omega)
      split <;> omega
    · rw [if_neg hxy]
      have := hg x y (by omega)
      split <;> omega
  rw [e1, e2, List.map_set, List.map_set]
theorem runL_map {g : Int → Int} (hg : ∀ x y, x ≤ y → g x ≤ g y) : ∀ {ps : List (Int × Int)} {c : List Int}, okP c.length ps → runL ps (c.map g) = (runL ps c).map g
  | [], _, _ => rfl
  | p :: ps, c, h => by
    show runL ps (cmp1 (c.map g) p) = (runL ps (cmp1 c p)).map g
    rw [cmp1_map hg (h p List.mem_cons_self)]
    exact runL_map hg (by rw [cmp1_len]; exact fun q hq => h q (List.mem_cons_of_mem _ hq))
/-! rows of noughts and ones are enough -/
theorem mem_plainL : ∀ (k : Nat) (r : List Int), r.length = k → (∀ x ∈ r, x = 0 ∨ x = 1) → r ∈ plainL k
  | 0, r, h, _ => by rw [List.eq_nil_of_length_eq_zero h]; exact List.mem_singleton.mpr rfl
  | k + 1, r, h, hx => by
    have hne : r ≠ [] := fun z => by subst z; simp at h
    have e := List.dropLast_concat_getLast hne
    have hm := mem_plainL k r.dropLast (by rw [List.length_dropLast, h]; rfl) (fun x hx' => hx x (List.dropLast_subset r hx'))
    have hl := hx _ (List.getLast_mem hne)
    refine List.mem_flatMap.mpr ⟨r.dropLast, hm, ?_⟩
    rw [← e]
    rcases hl with h0 | h1
    · rw [h0]; simp
    · rw [h1]; simp
def thr (t x : Int) : Int := if t ≤ x then 1 else 0
theorem thr_mono (t : Int) : ∀ x y, x ≤ y → thr t x ≤ thr t y := fun x y h => by
  unfold thr
  by_cases a : t ≤ x
  · rw [if_pos a, if_pos (by omega)]; exact Int.le_refl _
  · rw [if_neg a]; split <;> omega
theorem thr_eq {a b : List Int} (h : ∀ t, a.map (thr t) = b.map (thr t)) : a = b := by
  have hl : a.length = b.length := by have := congrArg List.length (h 0); simpa using this
  apply List.ext_getElem hl
  intro i h1 h2
  have g : ∀ t, thr t a[i] = thr t b[i] := fun t => by
    have e := congrArg (fun l : List Int => l[i]?) (h t)
    simp only [List.getElem?_map, List.getElem?_eq_getElem h1, List.getElem?_eq_getElem h2, Option.map_some, Option.some.injEq] at e
    exact e
  have ga := g a[i]
  have gb := g b[i]
  unfold thr at ga gb
  by_cases x : a[i] ≤ b[i]
  · by_cases y : b[i] ≤ a[i]
    · omega
    · rw [if_neg y, if_pos (Int.le_refl _)] at gb; omega
  · rw [if_pos (Int.le_refl _), if_neg x] at ga; omega
theorem zero_one {n : Nat} {ps qs : List (Int × Int)} (hp : okP n ps) (hq : okP n qs) (h : ∀ r ∈ plainL n, runL ps r = runL qs r) (c : List Int) (hc : c.length = n) : runL ps c = runL qs c := by
  apply thr_eq
  intro t
  have e1 := runL_map (g := thr t) (thr_mono t) (ps := ps) (c := c) (by rw [hc]; exact hp)
  have e2 := runL_map (g := thr t) (thr_mono t) (ps := qs) (c := c) (by rw [hc]; exact hq)
  rw [← e1, ← e2]
  apply h
  refine mem_plainL n _ (by rw [List.length_map]; exact hc) fun x hx => ?_
  obtain ⟨y, _, rfl⟩ := List.mem_map.mp hx
  unfold thr
  split
  · exact .inr rfl
  · exact .inl rfl
/-! plain_rows, parted -/
theorem lc2plain {A B : Option (D × Bool)} {R : Option (D × Bool)} : ∀ (rs : List (List Int)) (o o4 : Option (D × Bool)), (∀ r ∈ rs, r.length ≤ 1000) → lcGo2 (gN 3) bYes (iS false (mTup (aCons (mC (.int 0)) (aCons (mC (.int 1)) aNil)))) (gN 4) bYes (mOp fAdd (mVar 3) (mTup (aCons (mVar 4) aNil))) [4] (rws rs) [A, R, B, o, o4] = some (rws (nxt rs))
  | [], _, _, _ => rfl
  | r :: rs, o, o4, h => by
    have ih := lc2plain (A := A) (B := B) (R := R) rs o o4 (fun q hq => h q (List.mem_cons_of_mem _ hq))
    have hr := h r List.mem_cons_self
    have l1 : 1 ≤ lim := by decide
    have l2 : (iL r).length + 1 ≤ lim := by rw [iL_len]; unfold lim; omega
    have eq0 : ∀ b : Int, iL r ++ [D.int b] = iL (r ++ [b]) := fun b => by simp
    have en : rws (nxt (r :: rs)) = D.tup (iL (r ++ [0])) :: D.tup (iL (r ++ [1])) :: rws (nxt rs) := by unfold nxt; simp
    show lcGo2 _ _ _ _ _ _ _ (.tup (iL r) :: rws rs) _ = _
    unfold lcGo2
    rw [ih, en]
    simp only [iS, sIf, sSet, sRet, sNil, sNo, sApp, sAug, sAsg, sExpr, sFrz, sPar, sRev, sRetN, frz1, mOp, mVar, mC, mB, mNot, mAnd, mOr, mNeg, mIf, bNot, bAnd, bOr, bYes, mTup, mLst, aNil, aCons, nb, mFn, fLen, fList, fTuple, fMax2, fMin2, mIsT, isT_int_int, isT_int_bl, isT_bool_int, isT_bool_bl, isT_tuple_tup, isT_list_lst, mIsNet, mWires, mComps, mChain, fAdd_int, fSub_int, fMul_r, fMul_l, fDiv_c, fMod_c, fPow_c, fLt_int, fLe_int, fGt_int, fGe_int, fEq_int, fNe_int, fEq_bl, fNe_bl, fAdd_tup, fAdd_lst, fIx_lst, fIx_tup, fIx_frz, mSl, pNone, pSome, fIsN, fIsB, gN, gT, gsN, gTs, gsNil, gsCons, gIx, mCall, mMeth, isNetD, postC, imm, imms, List.getElem?_cons_zero, List.getElem?_cons_succ, List.set_cons_zero, List.set_cons_succ, Option.bind_some, Option.bind_none, Option.map_some, Option.map_none, Option.or_some, Option.or_none, Option.none_or, List.map_cons, List.map_nil, List.all_cons, List.all_nil, Bool.and_true, Bool.true_and, Bool.and_false, Bool.false_and, if_true, if_false, reduceCtorEq, decide_true, decide_false, ne_eq, not_true_eq_false, not_false_eq_true, List.length_cons, List.length_nil, List.getElem?_nil, List.set_nil, reduceIte, Bool.false_eq_true, Int.reduceNeg, Int.reduceLT, Int.reduceLE, Int.reducePow, Nat.reducePow, Nat.reduceLT, Nat.reduceLeDiff, Nat.reduceAdd, Int.reduceToNat, and_self, Nat.zero_le, Bool.not_true, Bool.not_false, Bool.not_eq_true, zero_add_nat, lim2, lcGo, wipeE, l1, l2, eq0, List.cons_append, List.nil_append, Bool.or_self, Bool.false_or]
theorem plains_ok {n : Nat} (hn : n ≤ 12) : f_plain_rows [.int (n : Int)] = some (.lst (rws (plainL n)), true) := by
  have st : ∀ {r : D × Bool}, b_plain_rows [some (.int (n : Int), false), none, none, none, none] = some (.rt r.1 r.2) → f_plain_rows [.int (n : Int)] = some r := fun h => rF h
  have l1 : 1 ≤ lim := by decide
  have hl0 : 0 ≤ lim := Nat.zero_le _
  have hr : iR1 (aCons (mVar 0) aNil) [some (.int (n : Int), false), some (.lst [.tup []], true), none, none, none] = some (rngD 0 n) := iR1_ok (a := .pure) (by simp only [sIf, sSet, sRet, sNil, sNo, sApp, sAug, sAsg, sExpr, sFrz, sPar, sRev, sRetN, frz1, mOp, mVar, mC, mB, mNot, mAnd, mOr, mNeg, mIf, bNot, bAnd, bOr, bYes, mTup, mLst, aNil, aCons, nb, mFn, fLen, fList, fTuple, fMax2, fMin2, mIsT, isT_int_int, isT_int_bl, isT_bool_int, isT_bool_bl, isT_tuple_tup, isT_list_lst, mIsNet, mWires, mComps, mChain, fAdd_int, fSub_int, fMul_r, fMul_l, fDiv_c, fMod_c, fPow_c, fLt_int, fLe_int, fGt_int, fGe_int, fEq_int, fNe_int, fEq_bl, fNe_bl, fAdd_tup, fAdd_lst, fIx_lst, fIx_tup, fIx_frz, mSl, pNone, pSome, fIsN, fIsB, gN, gT, gsN, gTs, gsNil, gsCons, gIx, mCall, mMeth, isNetD, postC, imm, imms, List.getElem?_cons_zero, List.getElem?_cons_succ, List.set_cons_zero, List.set_cons_succ, Option.bind_some, Option.bind_none, Option.map_some, Option.map_none, Option.or_some, Option.or_none, Option.none_or, List.map_cons, List.map_nil, List.all_cons, List.all_nil, Bool.and_true, Bool.true_and, Bool.and_false, Bool.false_and, if_true, if_false, reduceCtorEq, decide_true, decide_false, ne_eq, not_true_eq_false, not_false_eq_true, List.length_cons, List.length_nil, List.getElem?_nil, List.set_nil, reduceIte, Bool.false_eq_true, Int.reduceNeg, Int.reduceLT, Int.reduceLE, Int.reducePow, Nat.reducePow, Nat.reduceLT, Nat.reduceLeDiff, Nat.reduceAdd, Int.reduceToNat, and_self, Nat.zero_le, Bool.not_true, Bool.not_false, Bool.not_eq_true, zero_add_nat]) (by omega)
  have loop := forGo0 (g := gN 2) (m := (sSet 1 (mLc2 (iS true (mVar 1)) (gN 3) bYes (iS false (mTup (aCons (mC (.int 0)) (aCons (mC (.int 1)) aNil)))) (gN 4) bYes (mOp fAdd (mVar 3) (mTup (aCons (mVar 4) aNil))) [3, 4] [4])))
    (fun j ρ => ∃ (a : Option (D × Bool)), ρ = [some (.int (n : Int), false), some (.lst (rws (plainL j)), true), a, none, none]) (ds := rngD 0 n) (ρ := [some (.int (n : Int), false), some (.lst [.tup []], true), none, none, none]) ⟨none, rfl⟩ ?_
  · obtain ⟨ρ', h1, a, rfl⟩ := loop
    have hrl : (rngD 0 n).length = n := by simp [rngD]
    rw [hrl] at h1
    refine st ?_
    unfold b_plain_rows
    rw [seq_nx (by simp only [sIf, sSet, sRet, sNil, sNo, sApp, sAug, sAsg, sExpr, sFrz, sPar, sRev, sRetN, frz1, mOp, mVar, mC, mB, mNot, mAnd, mOr, mNeg, mIf, bNot, bAnd, bOr, bYes, mTup, mLst, aNil, aCons, nb, mFn, fLen, fList, fTuple, fMax2, fMin2, mIsT, isT_int_int, isT_int_bl, isT_bool_int, isT_bool_bl, isT_tuple_tup, isT_list_lst, mIsNet, mWires, mComps, mChain, fAdd_int, fSub_int, fMul_r, fMul_l, fDiv_c, fMod_c, fPow_c, fLt_int, fLe_int, fGt_int, fGe_int, fEq_int, fNe_int, fEq_bl, fNe_bl, fAdd_tup, fAdd_lst, fIx_lst, fIx_tup, fIx_frz, mSl, pNone, pSome, fIsN, fIsB, gN, gT, gsN, gTs, gsNil, gsCons, gIx, mCall, mMeth, isNetD, postC, imm, imms, List.getElem?_cons_zero, List.getElem?_cons_succ, List.set_cons_zero, List.set_cons_succ, Option.bind_some, Option.bind_none, Option.map_some, Option.map_none, Option.or_some, Option.or_none, Option.none_or, List.map_cons, List.map_nil, List.all_cons, List.all_nil, Bool.and_true, Bool.true_and, Bool.and_false, Bool.false_and, if_true, if_false, reduceCtorEq, decide_true, decide_false, ne_eq, not_true_eq_false, not_false_eq_true, List.length_cons, List.length_nil, List.getElem?_nil, List.set_nil, reduceIte, Bool.false_eq_true, Int.reduceNeg, Int.reduceLT, Int.reduceLE, Int.reducePow, Nat.reducePow, Nat.reduceLT, Nat.reduceLeDiff, Nat.reduceAdd, Int.reduceToNat, and_self, Nat.zero_le, Bool.not_true, Bool.not_false, Bool.not_eq_true, zero_add_nat, hl0, l1]; rfl), seq_nx ((for_ok hr).trans h1)]
    simp only [sIf, sSet, sRet, sNil, sNo, sApp, sAug, sAsg, sExpr, sFrz, sPar, sRev, sRetN, frz1, mOp, mVar, mC, mB, mNot, mAnd, mOr, mNeg, mIf, bNot, bAnd, bOr, bYes, mTup, mLst, aNil, aCons, nb, mFn, fLen, fList, fTuple, fMax2, fMin2, mIsT, isT_int_int, isT_int_bl, isT_bool_int, isT_bool_bl, isT_tuple_tup, isT_list_lst, mIsNet, mWires, mComps, mChain, fAdd_int, fSub_int, fMul_r, fMul_l, fDiv_c, fMod_c, fPow_c, fLt_int, fLe_int, fGt_int, fGe_int, fEq_int, fNe_int, fEq_bl, fNe_bl, fAdd_tup, fAdd_lst, fIx_lst, fIx_tup, fIx_frz, mSl, pNone, pSome, fIsN, fIsB, gN, gT, gsN, gTs, gsNil, gsCons, gIx, mCall, mMeth, isNetD, postC, imm, imms, List.getElem?_cons_zero, List.getElem?_cons_succ, List.set_cons_zero, List.set_cons_succ, Option.bind_some, Option.bind_none, Option.map_some, Option.map_none, Option.or_some, Option.or_none, Option.none_or, List.map_cons, List.map_nil, List.all_cons, List.all_nil, Bool.and_true, Bool.true_and, Bool.and_false, Bool.false_and, if_true, if_false, reduceCtorEq, decide_true, decide_false, ne_eq, not_true_eq_false, not_false_eq_true, List.length_cons, List.length_nil, List.getElem?_nil, List.set_nil, reduceIte, Bool.false_eq_true, Int.reduceNeg, Int.reduceLT, Int.reduceLE, Int.reducePow, Nat.reducePow, Nat.reduceLT, Nat.reduceLeDiff, Nat.reduceAdd, Int.reduceToNat, and_self, Nat.zero_le, Bool.not_true, Bool.not_false, Bool.not_eq_true, zero_add_nat]
  · rintro j d ρ hd ⟨a, rfl⟩
    obtain ⟨hj, rfl⟩ := rng_get hd
    rw [Int.zero_add]
    have hpl := plainL_len j
    have hpw : 2 ^ j ≤ 2 ^ 11 := Nat.pow_le_pow_right (by decide) (by omega)
    refine ⟨[some (.int (n : Int), false), some (.lst (rws (plainL j)), true), some (.int (j : Int), false), none, none], [some (.int (n : Int), false), some (.lst (rws (plainL (j + 1))), true), some (.int (j : Int), false), none, none], by simp only [gN, List.set_cons_succ, List.set_cons_zero], ?_, _, rfl⟩
    have hl2 := lc2plain (A := some (.int (n : Int), false)) (B := some (.int (j : Int), false)) (R := some (.lst (rws (plainL j)), true)) (plainL j) none none (fun r hr => by rw [plainL_mem j r hr]; omega)
    have hi : iS true (mVar 1) [some (.int (n : Int), false), some (.lst (rws (plainL j)), true), some (.int (j : Int), false), none, none] = some (rws (plainL j)) := by simp only [iS, sIf, sSet, sRet, sNil, sNo, sApp, sAug, sAsg, sExpr, sFrz, sPar, sRev, sRetN, frz1, mOp, mVar, mC, mB, mNot, mAnd, mOr, mNeg, mIf, bNot, bAnd, bOr, bYes, mTup, mLst, aNil, aCons, nb, mFn, fLen, fList, fTuple, fMax2, fMin2, mIsT, isT_int_int, isT_int_bl, isT_bool_int, isT_bool_bl, isT_tuple_tup, isT_list_lst, mIsNet, mWires, mComps, mChain, fAdd_int, fSub_int, fMul_r, fMul_l, fDiv_c, fMod_c, fPow_c, fLt_int, fLe_int, fGt_int, fGe_int, fEq_int, fNe_int, fEq_bl, fNe_bl, fAdd_tup, fAdd_lst, fIx_lst, fIx_tup, fIx_frz, mSl, pNone, pSome, fIsN, fIsB, gN, gT, gsN, gTs, gsNil, gsCons, gIx, mCall, mMeth, isNetD, postC, imm, imms, List.getElem?_cons_zero, List.getElem?_cons_succ, List.set_cons_zero, List.set_cons_succ, Option.bind_some, Option.bind_none, Option.map_some, Option.map_none, Option.or_some, Option.or_none, Option.none_or, List.map_cons, List.map_nil, List.all_cons, List.all_nil, Bool.and_true, Bool.true_and, Bool.and_false, Bool.false_and, if_true, if_false, reduceCtorEq, decide_true, decide_false, ne_eq, not_true_eq_false, not_false_eq_true, List.length_cons, List.length_nil, List.getElem?_nil, List.set_nil, reduceIte, Bool.false_eq_true, Int.reduceNeg, Int.reduceLT, Int.reduceLE, Int.reducePow, Nat.reducePow, Nat.reduceLT, Nat.reduceLeDiff, Nat.reduceAdd, Int.reduceToNat, and_self, Nat.zero_le, Bool.not_true, Bool.not_false, Bool.not_eq_true, zero_add_nat, Bool.true_or]
    have hle : (rws (nxt (plainL j))).length ≤ lim := by rw [rws_len, nxt_len, hpl]; unfold lim; omega
    simp only [sSet, mLc2, hi, Option.bind_some, wipeE, List.set_cons_succ, List.set_cons_zero, hl2, if_pos hle]
    rfl
/-- the first row with unlike results -/
def firstD (ps qs : List (Int × Int)) : List (List Int) → D
  | [] => .non
  | r :: rs => if runL ps r = runL qs r then firstD ps qs rs else .tup (iL r)
theorem forGo_nx {g : D → E → Option E} {m : S} {d : D} {ds : List D} {ρ ρ1 ρ2 : E} (h1 : g d ρ = some ρ1) (h2 : m ρ1 = some (.nx ρ2)) : forGo g m (d :: ds) ρ = forGo g m ds ρ2 := by
  rw [forGo, h1, Option.bind_some, h2, Option.bind_some]
theorem forGo_rt {g : D → E → Option E} {m : S} {d e : D} {f : Bool} {ds : List D} {ρ ρ1 : E} (h1 : g d ρ = some ρ1) (h2 : m ρ1 = some (.rt e f)) : forGo g m (d :: ds) ρ = some (.rt e f) := by
  rw [forGo, h1, Option.bind_some, h2, Option.bind_some]
def pabody (FR : FD) : S := (sIf (mB (mOp fNe (mMeth FR (mVar 0) (aCons (mVar 2) aNil)) (mMeth FR (mVar 1) (aCons (mVar 2) aNil)))) (sRet (mVar 2)) sNil)
theorem pa_nx {FR : FD} {n : Int} {P Q : List D} {r R : List Int} (e1 : FR [.net n (.tup P), .tup (iL r)] = some (.tup (iL R), false)) (e2 : FR [.net n (.tup Q), .tup (iL r)] = some (.tup (iL R), false)) : pabody FR [some (.net n (.tup P), false), some (.net n (.tup Q), false), some (.tup (iL r), false)] = some (.nx [some (.net n (.tup P), false), some (.net n (.tup Q), false), some (.tup (iL r), false)]) := by
  unfold pabody
  simp only [sIf, sSet, sRet, sNil, sNo, sApp, sAug, sAsg, sExpr, sFrz, sPar, sRev, sRetN, frz1, mOp, mVar, mC, mB, mNot, mAnd, mOr, mNeg, mIf, bNot, bAnd, bOr, bYes, mTup, mLst, aNil, aCons, nb, mFn, fLen, fList, fTuple, fMax2, fMin2, mIsT, isT_int_int, isT_int_bl, isT_bool_int, isT_bool_bl, isT_tuple_tup, isT_list_lst, mIsNet, mWires, mComps, mChain, fAdd_int, fSub_int, fMul_r, fMul_l, fDiv_c, fMod_c, fPow_c, fLt_int, fLe_int, fGt_int, fGe_int, fEq_int, fNe_int, fEq_bl, fNe_bl, fAdd_tup, fAdd_lst, fIx_lst, fIx_tup, fIx_frz, mSl, pNone, pSome, fIsN, fIsB, gN, gT, gsN, gTs, gsNil, gsCons, gIx, mCall, mMeth, isNetD, postC, imm, imms, List.getElem?_cons_zero, List.getElem?_cons_succ, List.set_cons_zero, List.set_cons_succ, Option.bind_some, Option.bind_none, Option.map_some, Option.map_none, Option.or_some, Option.or_none, Option.none_or, List.map_cons, List.map_nil, List.all_cons, List.all_nil, Bool.and_true, Bool.true_and, Bool.and_false, Bool.false_and, if_true, if_false, reduceCtorEq, decide_true, decide_false, ne_eq, not_true_eq_false, not_false_eq_true, List.length_cons, List.length_nil, List.getElem?_nil, List.set_nil, reduceIte, Bool.false_eq_true, Int.reduceNeg, Int.reduceLT, Int.reduceLE, Int.reducePow, Nat.reducePow, Nat.reduceLT, Nat.reduceLeDiff, Nat.reduceAdd, Int.reduceToNat, and_self, Nat.zero_le, Bool.not_true, Bool.not_false, Bool.not_eq_true, zero_add_nat, e1, e2, fNe_tup]
theorem pa_rt {FR : FD} {n : Int} {P Q : List D} {r R T : List Int} (e1 : FR [.net n (.tup P), .tup (iL r)] = some (.tup (iL R), false)) (e2 : FR [.net n (.tup Q), .tup (iL r)] = some (.tup (iL T), false)) (hne : ¬ R = T) : pabody FR [some (.net n (.tup P), false), some (.net n (.tup Q), false), some (.tup (iL r), false)] = some (.rt (.tup (iL r)) false) := by
  unfold pabody
  simp only [sIf, sSet, sRet, sNil, sNo, sApp, sAug, sAsg, sExpr, sFrz, sPar, sRev, sRetN, frz1, mOp, mVar, mC, mB, mNot, mAnd, mOr, mNeg, mIf, bNot, bAnd, bOr, bYes, mTup, mLst, aNil, aCons, nb, mFn, fLen, fList, fTuple, fMax2, fMin2, mIsT, isT_int_int, isT_int_bl, isT_bool_int, isT_bool_bl, isT_tuple_tup, isT_list_lst, mIsNet, mWires, mComps, mChain, fAdd_int, fSub_int, fMul_r, fMul_l, fDiv_c, fMod_c, fPow_c, fLt_int, fLe_int, fGt_int, fGe_int, fEq_int, fNe_int, fEq_bl, fNe_bl, fAdd_tup, fAdd_lst, fIx_lst, fIx_tup, fIx_frz, mSl, pNone, pSome, fIsN, fIsB, gN, gT, gsN, gTs, gsNil, gsCons, gIx, mCall, mMeth, isNetD, postC, imm, imms, List.getElem?_cons_zero, List.getElem?_cons_succ, List.set_cons_zero, List.set_cons_succ, Option.bind_some, Option.bind_none, Option.map_some, Option.map_none, Option.or_some, Option.or_none, Option.none_or, List.map_cons, List.map_nil, List.all_cons, List.all_nil, Bool.and_true, Bool.true_and, Bool.and_false, Bool.false_and, if_true, if_false, reduceCtorEq, decide_true, decide_false, ne_eq, not_true_eq_false, not_false_eq_true, List.length_cons, List.length_nil, List.getElem?_nil, List.set_nil, reduceIte, Bool.false_eq_true, Int.reduceNeg, Int.reduceLT, Int.reduceLE, Int.reducePow, Nat.reducePow, Nat.reduceLT, Nat.reduceLeDiff, Nat.reduceAdd, Int.reduceToNat, and_self, Nat.zero_le, Bool.not_true, Bool.not_false, Bool.not_eq_true, zero_add_nat, e1, e2, fNe_tup, hne]
theorem pa_go {FR : FD} {n : Int} {ps qs : List (Int × Int)} : ∀ (rs : List (List Int)) (o : Option (D × Bool)), (∀ r ∈ rs, FR [.net n (.tup (prs ps)), .tup (iL r)] = some (.tup (iL (runL ps r)), false) ∧ FR [.net n (.tup (prs qs)), .tup (iL r)] = some (.tup (iL (runL qs r)), false)) →
    (∃ o', forGo (gN 2) (pabody FR) (rws rs) [some (.net n (.tup (prs ps)), false), some (.net n (.tup (prs qs)), false), o] = some (.nx [some (.net n (.tup (prs ps)), false), some (.net n (.tup (prs qs)), false), o']) ∧ firstD ps qs rs = .non) ∨
    forGo (gN 2) (pabody FR) (rws rs) [some (.net n (.tup (prs ps)), false), some (.net n (.tup (prs qs)), false), o] = some (.rt (firstD ps qs rs) false)
  | [], o, _ => .inl ⟨o, rfl, rfl⟩
  | r :: rs, o, h => by
    obtain ⟨e1, e2⟩ := h r List.mem_cons_self
    have hg : gN 2 (.tup (iL r)) [some (.net n (.tup (prs ps)), false), some (.net n (.tup (prs qs)), false), o] = some [some (.net n (.tup (prs ps)), false), some (.net n (.tup (prs qs)), false), some (.tup (iL r), false)] := by simp only [gN, List.set_cons_succ, List.set_cons_zero]
    have hc : rws (r :: rs) = .tup (iL r) :: rws rs := rfl
    rw [hc]
    by_cases hx : runL ps r = runL qs r
    · rw [← hx] at e2
      rw [forGo_nx hg (pa_nx e1 e2), firstD, if_pos hx]
      exact pa_go rs _ (fun q hq => h q (List.mem_cons_of_mem _ hq))
    · rw [firstD, if_neg hx]
      exact .inr (forGo_rt hg (pa_rt e1 e2 hx))
theorem parted_ok {n : Nat} {ps qs : List (Int × Int)} (hn : n ≤ 12) (hp : okP n ps) (hq : okP n qs) : f_parted [.net n (.tup (prs ps)), .net n (.tup (prs qs))] = some (firstD ps qs (plainL n), false) := by
  have st : ∀ {r : D × Bool}, b_parted [some (.net n (.tup (prs ps)), false), some (.net n (.tup (prs qs)), false), none] = some (.rt r.1 r.2) → f_parted [.net n (.tup (prs ps)), .net n (.tup (prs qs))] = some r := fun h => rF h
  have pl := plains_ok (n := n) hn
  have go := pa_go (FR := f_Network_run) (n := (n : Int)) (ps := ps) (qs := qs) (plainL n) none fun r hr => ⟨nrun_ok (by rw [plainL_mem n r hr]; exact hp), nrun_ok (by rw [plainL_mem n r hr]; exact hq)⟩
  have hi : ∀ FP : FD, FP [.int (n : Int)] = some (.lst (rws (plainL n)), true) → iS false (mCall FP (aCons (mWires (mVar 0)) aNil)) [some (.net n (.tup (prs ps)), false), some (.net n (.tup (prs qs)), false), none] = some (rws (plainL n)) := fun FP pl => by simp only [iS, sIf, sSet, sRet, sNil, sNo, sApp, sAug, sAsg, sExpr, sFrz, sPar, sRev, sRetN, frz1, mOp, mVar, mC, mB, mNot, mAnd, mOr, mNeg, mIf, bNot, bAnd, bOr, bYes, mTup, mLst, aNil, aCons, nb, mFn, fLen, fList, fTuple, fMax2, fMin2, mIsT, isT_int_int, isT_int_bl, isT_bool_int, isT_bool_bl, isT_tuple_tup, isT_list_lst, mIsNet, mWires, mComps, mChain, fAdd_int, fSub_int, fMul_r, fMul_l, fDiv_c, fMod_c, fPow_c, fLt_int, fLe_int, fGt_int, fGe_int, fEq_int, fNe_int, fEq_bl, fNe_bl, fAdd_tup, fAdd_lst, fIx_lst, fIx_tup, fIx_frz, mSl, pNone, pSome, fIsN, fIsB, gN, gT, gsN, gTs, gsNil, gsCons, gIx, mCall, mMeth, isNetD, postC, imm, imms, List.getElem?_cons_zero, List.getElem?_cons_succ, List.set_cons_zero, List.set_cons_succ, Option.bind_some, Option.bind_none, Option.map_some, Option.map_none, Option.or_some, Option.or_none, Option.none_or, List.map_cons, List.map_nil, List.all_cons, List.all_nil, Bool.and_true, Bool.true_and, Bool.and_false, Bool.false_and, if_true, if_false, reduceCtorEq, decide_true, decide_false, ne_eq, not_true_eq_false, not_false_eq_true, List.length_cons, List.length_nil, List.getElem?_nil, List.set_nil, reduceIte, Bool.false_eq_true, Int.reduceNeg, Int.reduceLT, Int.reduceLE, Int.reducePow, Nat.reducePow, Nat.reduceLT, Nat.reduceLeDiff, Nat.reduceAdd, Int.reduceToNat, and_self, Nat.zero_le, Bool.not_true, Bool.not_false, Bool.not_eq_true, zero_add_nat, pl, Bool.false_or]
  have hii := hi _ pl
  have fin : ∀ o' : Option (D × Bool), sRet (mC .non) [some (.net n (.tup (prs ps)), false), some (.net n (.tup (prs qs)), false), o'] = some (.rt .non false) := fun o' => by simp only [sIf, sSet, sRet, sNil, sNo, sApp, sAug, sAsg, sExpr, sFrz, sPar, sRev, sRetN, frz1, mOp, mVar, mC, mB, mNot, mAnd, mOr, mNeg, mIf, bNot, bAnd, bOr, bYes, mTup, mLst, aNil, aCons, nb, mFn, fLen, fList, fTuple, fMax2, fMin2, mIsT, isT_int_int, isT_int_bl, isT_bool_int, isT_bool_bl, isT_tuple_tup, isT_list_lst, mIsNet, mWires, mComps, mChain, fAdd_int, fSub_int, fMul_r, fMul_l, fDiv_c, fMod_c, fPow_c, fLt_int, fLe_int, fGt_int, fGe_int, fEq_int, fNe_int, fEq_bl, fNe_bl, fAdd_tup, fAdd_lst, fIx_lst, fIx_tup, fIx_frz, mSl, pNone, pSome, fIsN, fIsB, gN, gT, gsN, gTs, gsNil, gsCons, gIx, mCall, mMeth, isNetD, postC, imm, imms, List.getElem?_cons_zero, List.getElem?_cons_succ, List.set_cons_zero, List.set_cons_succ, Option.bind_some, Option.bind_none, Option.map_some, Option.map_none, Option.or_some, Option.or_none, Option.none_or, List.map_cons, List.map_nil, List.all_cons, List.all_nil, Bool.and_true, Bool.true_and, Bool.and_false, Bool.false_and, if_true, if_false, reduceCtorEq, decide_true, decide_false, ne_eq, not_true_eq_false, not_false_eq_true, List.length_cons, List.length_nil, List.getElem?_nil, List.set_nil, reduceIte, Bool.false_eq_true, Int.reduceNeg, Int.reduceLT, Int.reduceLE, Int.reducePow, Nat.reducePow, Nat.reduceLT, Nat.reduceLeDiff, Nat.reduceAdd, Int.reduceToNat, and_self, Nat.zero_le, Bool.not_true, Bool.not_false, Bool.not_eq_true, zero_add_nat]
  refine st ?_
  unfold b_parted
  unfold pabody at go
  rcases go with ⟨o', g1, g2⟩ | g1
  · rw [seq_nx ((for_ok hii).trans g1), g2]
    exact fin o'
  · exact seq_rt ((for_ok hii).trans g1)
end Lw

namespace Lw
open PySem L2 Dt
def b__law_pairs_k26 : S := (sSeq (sSet 5 (mLst aNil)) (sSeq (sIf (mB (mOp fEq (mVar 2) (mC (.int 1)))) (sRet (mVar 5)) sNil) (sSeq (sFor (iR1 (aCons (mOp fMod (mOp fIx (mVar 0) (mVar 1)) (mOp fAdd (mVar 3) (mC (.int 1)))) aNil)) (gN 6) (sSeq (sSet 7 (mOp fDiv (mOp fIx (mVar 0) (mOp fAdd (mOp fAdd (mVar 1) (mC (.int 1))) (mOp fDiv (mVar 6) (mC (.int 3))))) (mOp fIx (mLst (aCons (mC (.int 1)) (aCons (mC (.int 97)) (aCons (mC (.int 9409)) aNil)))) (mOp fMod (mVar 6) (mC (.int 3)))))) (sSeq (sSet 8 (mOp fMod (mVar 7) (mVar 2))) (sSeq (sSet 9 (mOp fMod (mOp fDiv (mVar 7) (mVar 2)) (mOp fSub (mVar 2) (mC (.int 1))))) (sSeq (sIf (mB (mOp fGe (mVar 9) (mVar 8))) (sSet 9 (mOp fAdd (mVar 9) (mC (.int 1)))) sNil) (sIf (bAnd (mB (mVar 4)) (mB (mOp fGt (mVar 8) (mVar 9)))) (sApp 5 (mTup (aCons (mVar 9) (aCons (mVar 8) aNil)))) (sApp 5 (mTup (aCons (mVar 8) (aCons (mVar 9) aNil)))))))))) (sRet (mVar 5)))))
def f__law_pairs_k26 : FD := runF 10 b__law_pairs_k26
def b__law_second : S := (sSeq (sSet 3 (mOp fMod (mOp fIx (mVar 0) (mC (.int 9))) (mC (.int 6)))) (sSeq (sIf (bOr (mB (mOp fEq (mVar 3) (mC (.int 0)))) (mB (mOp fEq (mFn fLen (aCons (mVar 2) aNil)) (mC (.int 0))))) (sRet (mCall f__law_pairs_k26 (aCons (mVar 0) (aCons (mC (.int 10)) (aCons (mVar 1) (aCons (mC (.int 18)) (aCons (mC (.bl false)) aNil))))))) sNil) (sSeq (sSet 4 (mOp fMod (mOp fDiv (mOp fIx (mVar 0) (mC (.int 9))) (mC (.int 6))) (mFn fLen (aCons (mVar 2) aNil)))) (sSeq (sIf (mB (mOp fEq (mVar 3) (mC (.int 1)))) (sRet (mOp fAdd (mSl (mVar 2) pNone (pSome (mVar 4))) (mSl (mVar 2) (pSome (mOp fAdd (mVar 4) (mC (.int 1)))) pNone))) sNil) (sSeq (sIf (mB (mOp fEq (mVar 3) (mC (.int 2)))) (sRet (mOp fAdd (mOp fAdd (mSl (mVar 2) pNone (pSome (mVar 4))) (mLst (aCons (mOp fIx (mVar 2) (mVar 4)) aNil))) (mSl (mVar 2) (pSome (mVar 4)) pNone))) sNil) (sSeq (sIf (mB (mOp fEq (mVar 3) (mC (.int 3)))) (sRet (mOp fAdd (mOp fAdd (mOp fAdd (mSl (mVar 2) pNone (pSome (mVar 4))) (mSl (mVar 2) (pSome (mOp fAdd (mVar 4) (mC (.int 1)))) (pSome (mOp fAdd (mVar 4) (mC (.int 2)))))) (mLst (aCons (mOp fIx (mVar 2) (mVar 4)) aNil))) (mSl (mVar 2) (pSome (mOp fAdd (mVar 4) (mC (.int 2)))) pNone))) sNil) (sSeq (sIf (mB (mOp fEq (mVar 3) (mC (.int 4)))) (sRet (mOp fAdd (mOp fAdd (mSl (mVar 2) pNone (pSome (mVar 4))) (mLst (aCons (mTup (aCons (mOp fIx (mOp fIx (mVar 2) (mVar 4)) (mC (.int 1))) (aCons (mOp fIx (mOp fIx (mVar 2) (mVar 4)) (mC (.int 0))) aNil))) aNil))) (mSl (mVar 2) (pSome (mOp fAdd (mVar 4) (mC (.int 1)))) pNone))) sNil) (sRet (mFn fList (aCons (mVar 2) aNil))))))))))
def f__law_second : FD := runF 5 b__law_second
def b__law_row_k26 : S := (sSeq (sSet 3 (mOp fIx (mVar 0) (mVar 1))) (sSeq (sSet 4 (mLst aNil)) (sSeq (sFor (iR1 (aCons (mVar 2) aNil)) (gN 5) (sSeq (sApp 4 (mOp fSub (mOp fMod (mVar 3) (mC (.int 7))) (mC (.int 3)))) (sSet 3 (mOp fAdd (mOp fDiv (mVar 3) (mC (.int 7))) (mOp fMul (mC (.int 5)) (mVar 5)))))) (sSeq (sSet 6 (mOp fIx (mLst (aCons (mC (.int 1)) (aCons (mC (.int 1)) (aCons (mOp fPow (mC (.int 10)) (mC (.int 20))) (aCons (mC (.int 3)) aNil))))) (mOp fMod (mOp fIx (mVar 0) (mOp fAdd (mVar 1) (mC (.int 1)))) (mC (.int 4))))) (sRet (mFn fTuple (aCons (mLc (iS true (mVar 4)) (gN 7) bYes (mOp fMul (mVar 7) (mVar 6)) [7]) aNil)))))))
def f__law_row_k26 : FD := runF 8 b__law_row_k26
def b_law : S := (sSeq (sSet 1 (mCall f__law_numbers (aCons (mVar 0) (aCons (mC (.int 25)) aNil)))) (sSeq (sFrz 1 (sSet 2 (mOp fAdd (mOp fMod (mOp fIx (mVar 1) (mC (.int 0))) (mC (.int 6))) (mC (.int 1))))) (sSeq (sIf (mB (mOp fEq (mOp fMod (mOp fDiv (mOp fIx (mVar 1) (mC (.int 0))) (mC (.int 6))) (mC (.int 8))) (mC (.int 1)))) (sSet 2 (mOp fAdd (mC (.int 7)) (mOp fMod (mOp fDiv (mOp fIx (mVar 1) (mC (.int 0))) (mC (.int 48))) (mC (.int 2))))) sNil) (sSeq (sSet 3 (mCall f__law_pairs_k26 (aCons (mVar 1) (aCons (mC (.int 1)) (aCons (mVar 2) (aCons (mC (.int 18)) (aCons (mOp fEq (mOp fMod (mOp fIx (mVar 1) (mC (.int 8))) (mC (.int 2))) (mC (.int 1))) aNil))))))) (sSeq (sIf (mB (mOp fEq (mOp fMod (mOp fDiv (mOp fIx (mVar 1) (mC (.int 1))) (mC (.int 19))) (mC (.int 16))) (mC (.int 3)))) (sSet 3 (mSl (mOp fMul (mVar 3) (mC (.int 40))) pNone (pSome (mC (.int 100))))) sNil) (sSeq (sSet 4 (mCall f__law_second (aCons (mVar 1) (aCons (mVar 2) (aCons (mVar 3) aNil))))) (sSeq (sSet 5 (mC .non)) (sSeq (sFor (iRv false (mCall f__law_plain (aCons (mVar 2) aNil))) (gN 6) (sIf (mB (mOp fNe (mCall f__law_run (aCons (mVar 3) (aCons (mVar 6) aNil))) (mCall f__law_run (aCons (mVar 4) (aCons (mVar 6) aNil))))) (sFrz 6 (sSet 5 (mVar 6))) sNil)) (sSeq (sSet 7 (mFn fNet (aCons (mVar 2) (aCons (mVar 3) aNil)))) (sSeq (sSet 8 (mFn fNet (aCons (mVar 2) (aCons (mVar 4) aNil)))) (sSeq (sIf (bOr (mB (mOp fNe (mCall f_parted (aCons (mVar 7) (aCons (mVar 8) aNil))) (mVar 5))) (bOr (mB (mOp fNe (mCall f_parted (aCons (mVar 8) (aCons (mVar 7) aNil))) (mVar 5))) (mB (mOp (fIsN true) (mCall f_parted (aCons (mVar 7) (aCons (mVar 7) aNil))) (mC .non))))) (sRet (mC (.bl false))) sNil) (sSeq (sFor (iR1 (aCons (mC (.int 3)) aNil)) (gN 9) (sSeq (sSet 6 (mCall f__law_row_k26 (aCons (mVar 1) (aCons (mOp fAdd (mC (.int 18)) (mOp fMul (mC (.int 2)) (mVar 9))) (aCons (mVar 2) aNil))))) (sIf (bAnd (mB (mOp (fIsN false) (mVar 5) (mC .non))) (mB (mOp fNe (mMeth f_Network_run (mVar 7) (aCons (mVar 6) aNil)) (mMeth f_Network_run (mVar 8) (aCons (mVar 6) aNil))))) (sRet (mC (.bl false))) sNil))) (sRet (mOr (mOp (fIsN false) (mVar 5) (mC .non)) (mAnd (mIsT "tuple" (mVar 5)) (mOp fNe (mMeth f_Network_run (mVar 7) (aCons (mVar 5) aNil)) (mMeth f_Network_run (mVar 8) (aCons (mVar 5) aNil))))))))))))))))))
def f_law : FD := runF 10 b_law
end Lw
set_option maxRecDepth 100000
set_option maxHeartbeats 4000000
namespace Lw
open PySem L2 Dt
theorem cut_ok {w : Int} {ps : List (Int × Int)} {m : Nat} (h : okP w ps) (hl : ps.length ≤ m) (lo hi : Option Int) : ∃ A : List (Int × Int), cutD (prs ps) lo hi = prs A ∧ okP w A ∧ A.length ≤ m := by
  refine ⟨cutD ps lo hi, prs_cut _ _ _, fun p hp => ?_, ?_⟩
  · unfold cutD at hp
    exact h p (List.mem_of_mem_drop (List.mem_of_mem_take hp))
  · unfold cutD
    refine Nat.le_trans (List.length_take_le' _ _) ?_
    rw [List.length_drop]; omega
theorem sec2 {X W C : Option (D × Bool)} {PS PA PC : List D} {p : Int} {d : D} (hA : cutD PS none (some p) = PA) (hC : cutD PS (some p) none = PC) (ea : atI PS p = some d) (l1 : 1 ≤ lim) (g1 : PA.length + 1 ≤ lim) (g2 : (PA ++ [d]).length + PC.length ≤ lim) :
    sRet (mOp fAdd (mOp fAdd (mSl (mVar 2) pNone (pSome (mVar 4))) (mLst (aCons (mOp fIx (mVar 2) (mVar 4)) aNil))) (mSl (mVar 2) (pSome (mVar 4)) pNone)) [X, W, some (.lst PS, false), C, some (.int p, false)] = some (.rt (.lst (PA ++ [d] ++ PC)) true) := by
  simp only [sIf, sSet, sRet, sNil, sNo, sApp, sAug, sAsg, sExpr, sFrz, sPar, sRev, sRetN, frz1, mOp, mVar, mC, mB, mNot, mAnd, mOr, mNeg, mIf, bNot, bAnd, bOr, bYes, mTup, mLst, aNil, aCons, nb, mFn, fLen, fList, fTuple, fMax2, fMin2, mIsT, isT_int_int, isT_int_bl, isT_bool_int, isT_bool_bl, isT_tuple_tup, isT_list_lst, mIsNet, mWires, mComps, mChain, fAdd_int, fSub_int, fMul_r, fMul_l, fDiv_c, fMod_c, fPow_c, fLt_int, fLe_int, fGt_int, fGe_int, fEq_int, fNe_int, fEq_bl, fNe_bl, fAdd_tup, fAdd_lst, fIx_lst, fIx_tup, fIx_frz, mSl, pNone, pSome, fIsN, fIsB, gN, gT, gsN, gTs, gsNil, gsCons, gIx, mCall, mMeth, isNetD, postC, imm, imms, List.getElem?_cons_zero, List.getElem?_cons_succ, List.set_cons_zero, List.set_cons_succ, Option.bind_some, Option.bind_none, Option.map_some, Option.map_none, Option.or_some, Option.or_none, Option.none_or, List.map_cons, List.map_nil, List.all_cons, List.all_nil, Bool.and_true, Bool.true_and, Bool.and_false, Bool.false_and, if_true, if_false, reduceCtorEq, decide_true, decide_false, ne_eq, not_true_eq_false, not_false_eq_true, List.length_cons, List.length_nil, List.getElem?_nil, List.set_nil, reduceIte, Bool.false_eq_true, Int.reduceNeg, Int.reduceLT, Int.reduceLE, Int.reducePow, Nat.reducePow, Nat.reduceLT, Nat.reduceLeDiff, Nat.reduceAdd, Int.reduceToNat, and_self, Nat.zero_le, Bool.not_true, Bool.not_false, Bool.not_eq_true, zero_add_nat, hA, hC, ea, l1, g1, g2]
theorem sec3 {X W C : Option (D × Bool)} {PS PA PD PE : List D} {p : Int} {d : D} (hA : cutD PS none (some p) = PA) (hD : cutD PS (some (p + 1)) (some (p + 2)) = PD) (hE : cutD PS (some (p + 2)) none = PE) (ea : atI PS p = some d) (l1 : 1 ≤ lim) (g1 : PA.length + PD.length ≤ lim) (g2 : (PA ++ PD).length + 1 ≤ lim) (g3 : (PA ++ PD ++ [d]).length + PE.length ≤ lim) :
    sRet (mOp fAdd (mOp fAdd (mOp fAdd (mSl (mVar 2) pNone (pSome (mVar 4))) (mSl (mVar 2) (pSome (mOp fAdd (mVar 4) (mC (.int 1)))) (pSome (mOp fAdd (mVar 4) (mC (.int 2)))))) (mLst (aCons (mOp fIx (mVar 2) (mVar 4)) aNil))) (mSl (mVar 2) (pSome (mOp fAdd (mVar 4) (mC (.int 2)))) pNone)) [X, W, some (.lst PS, false), C, some (.int p, false)] = some (.rt (.lst (PA ++ PD ++ [d] ++ PE)) true) := by
  simp only [sIf, sSet, sRet, sNil, sNo, sApp, sAug, sAsg, sExpr, sFrz, sPar, sRev, sRetN, frz1, mOp, mVar, mC, mB, mNot, mAnd, mOr, mNeg, mIf, bNot, bAnd, bOr, bYes, mTup, mLst, aNil, aCons, nb, mFn, fLen, fList, fTuple, fMax2, fMin2, mIsT, isT_int_int, isT_int_bl, isT_bool_int, isT_bool_bl, isT_tuple_tup, isT_list_lst, mIsNet, mWires, mComps, mChain, fAdd_int, fSub_int, fMul_r, fMul_l, fDiv_c, fMod_c, fPow_c, fLt_int, fLe_int, fGt_int, fGe_int, fEq_int, fNe_int, fEq_bl, fNe_bl, fAdd_tup, fAdd_lst, fIx_lst, fIx_tup, fIx_frz, mSl, pNone, pSome, fIsN, fIsB, gN, gT, gsN, gTs, gsNil, gsCons, gIx, mCall, mMeth, isNetD, postC, imm, imms, List.getElem?_cons_zero, List.getElem?_cons_succ, List.set_cons_zero, List.set_cons_succ, Option.bind_some, Option.bind_none, Option.map_some, Option.map_none, Option.or_some, Option.or_none, Option.none_or, List.map_cons, List.map_nil, List.all_cons, List.all_nil, Bool.and_true, Bool.true_and, Bool.and_false, Bool.false_and, if_true, if_false, reduceCtorEq, decide_true, decide_false, ne_eq, not_true_eq_false, not_false_eq_true, List.length_cons, List.length_nil, List.getElem?_nil, List.set_nil, reduceIte, Bool.false_eq_true, Int.reduceNeg, Int.reduceLT, Int.reduceLE, Int.reducePow, Nat.reducePow, Nat.reduceLT, Nat.reduceLeDiff, Nat.reduceAdd, Int.reduceToNat, and_self, Nat.zero_le, Bool.not_true, Bool.not_false, Bool.not_eq_true, zero_add_nat, hA, hD, hE, ea, l1, g1, g2, g3]
theorem sec4 {X W C : Option (D × Bool)} {PS PA PB : List D} {p a b : Int} {dq : List D} (hA : cutD PS none (some p) = PA) (hB : cutD PS (some (p + 1)) none = PB) (ea : atI PS p = some (.tup dq)) (i0 : atI dq 0 = some (.int a)) (i1 : atI dq 1 = some (.int b)) (l1 : 1 ≤ lim) (g1 : PA.length + 1 ≤ lim) (g2 : (PA ++ [D.tup [.int b, .int a]]).length + PB.length ≤ lim) :
    sRet (mOp fAdd (mOp fAdd (mSl (mVar 2) pNone (pSome (mVar 4))) (mLst (aCons (mTup (aCons (mOp fIx (mOp fIx (mVar 2) (mVar 4)) (mC (.int 1))) (aCons (mOp fIx (mOp fIx (mVar 2) (mVar 4)) (mC (.int 0))) aNil))) aNil))) (mSl (mVar 2) (pSome (mOp fAdd (mVar 4) (mC (.int 1)))) pNone)) [X, W, some (.lst PS, false), C, some (.int p, false)] = some (.rt (.lst (PA ++ [D.tup [.int b, .int a]] ++ PB)) true) := by
  simp only [sIf, sSet, sRet, sNil, sNo, sApp, sAug, sAsg, sExpr, sFrz, sPar, sRev, sRetN, frz1, mOp, mVar, mC, mB, mNot, mAnd, mOr, mNeg, mIf, bNot, bAnd, bOr, bYes, mTup, mLst, aNil, aCons, nb, mFn, fLen, fList, fTuple, fMax2, fMin2, mIsT, isT_int_int, isT_int_bl, isT_bool_int, isT_bool_bl, isT_tuple_tup, isT_list_lst, mIsNet, mWires, mComps, mChain, fAdd_int, fSub_int, fMul_r, fMul_l, fDiv_c, fMod_c, fPow_c, fLt_int, fLe_int, fGt_int, fGe_int, fEq_int, fNe_int, fEq_bl, fNe_bl, fAdd_tup, fAdd_lst, fIx_lst, fIx_tup, fIx_frz, mSl, pNone, pSome, fIsN, fIsB, gN, gT, gsN, gTs, gsNil, gsCons, gIx, mCall, mMeth, isNetD, postC, imm, imms, List.getElem?_cons_zero, List.getElem?_cons_succ, List.set_cons_zero, List.set_cons_succ, Option.bind_some, Option.bind_none, Option.map_some, Option.map_none, Option.or_some, Option.or_none, Option.none_or, List.map_cons, List.map_nil, List.all_cons, List.all_nil, Bool.and_true, Bool.true_and, Bool.and_false, Bool.false_and, if_true, if_false, reduceCtorEq, decide_true, decide_false, ne_eq, not_true_eq_false, not_false_eq_true, List.length_cons, List.length_nil, List.getElem?_nil, List.set_nil, reduceIte, Bool.false_eq_true, Int.reduceNeg, Int.reduceLT, Int.reduceLE, Int.reducePow, Nat.reducePow, Nat.reduceLT, Nat.reduceLeDiff, Nat.reduceAdd, Int.reduceToNat, and_self, Nat.zero_le, Bool.not_true, Bool.not_false, Bool.not_eq_true, zero_add_nat, hA, hB, ea, i0, i1, lim2, l1, g1, g2]
theorem second_ok {xs : List Int} {w : Int} {ps : List (Int × Int)} (hx : ∀ x ∈ xs, 0 ≤ x ∧ x < 1000000) (hxl : xs.length = 25) (hw : 1 ≤ w) (hw2 : w ≤ 12) (h : okP w ps) (hl : ps.length ≤ 400) :
    ∃ qs : List (Int × Int), qs.length ≤ 2000 ∧ okP w qs ∧ f__law_second [.lst (iL xs), .int w, .lst (prs ps)] = some (.lst (prs qs), true) := by
  have st : ∀ {r : D × Bool}, b__law_second [some (.lst (iL xs), false), some (.int w, false), some (.lst (prs ps), false), none, none] = some (.rt r.1 r.2) → f__law_second [.lst (iL xs), .int w, .lst (prs ps)] = some r := fun h => rF h
  obtain ⟨x, e9, m9, _⟩ := at_nn (xs := xs) (i := 9) (by omega) (by omega)
  obtain ⟨qs0, hq0, hqo, _, ep⟩ := pairsB_ok (F := f__law_pairs_k26) rfl (xs := xs) (place := 10) (w := w) (many := 18) (std := false) hx (by omega) (by omega) (by omega) hw hw2
  have nat18 : ((18 : Nat) : Int) = 18 := rfl
  rw [nat18] at ep
  have iq := imms_prs qs0
  have S1 : ∀ k : S, sSeq (sSet 3 (mOp fMod (mOp fIx (mVar 0) (mC (.int 9))) (mC (.int 6)))) k [some (.lst (iL xs), false), some (.int w, false), some (.lst (prs ps), false), none, none] = k [some (.lst (iL xs), false), some (.int w, false), some (.lst (prs ps), false), some (.int (x % 6), false), none] := fun k => seq_nx (by simp only [sIf, sSet, sRet, sNil, sNo, sApp, sAug, sAsg, sExpr, sFrz, sPar, sRev, sRetN, frz1, mOp, mVar, mC, mB, mNot, mAnd, mOr, mNeg, mIf, bNot, bAnd, bOr, bYes, mTup, mLst, aNil, aCons, nb, mFn, fLen, fList, fTuple, fMax2, fMin2, mIsT, isT_int_int, isT_int_bl, isT_bool_int, isT_bool_bl, isT_tuple_tup, isT_list_lst, mIsNet, mWires, mComps, mChain, fAdd_int, fSub_int, fMul_r, fMul_l, fDiv_c, fMod_c, fPow_c, fLt_int, fLe_int, fGt_int, fGe_int, fEq_int, fNe_int, fEq_bl, fNe_bl, fAdd_tup, fAdd_lst, fIx_lst, fIx_tup, fIx_frz, mSl, pNone, pSome, fIsN, fIsB, gN, gT, gsN, gTs, gsNil, gsCons, gIx, mCall, mMeth, isNetD, postC, imm, imms, List.getElem?_cons_zero, List.getElem?_cons_succ, List.set_cons_zero, List.set_cons_succ, Option.bind_some, Option.bind_none, Option.map_some, Option.map_none, Option.or_some, Option.or_none, Option.none_or, List.map_cons, List.map_nil, List.all_cons, List.all_nil, Bool.and_true, Bool.true_and, Bool.and_false, Bool.false_and, if_true, if_false, reduceCtorEq, decide_true, decide_false, ne_eq, not_true_eq_false, not_false_eq_true, List.length_cons, List.length_nil, List.getElem?_nil, List.set_nil, reduceIte, Bool.false_eq_true, Int.reduceNeg, Int.reduceLT, Int.reduceLE, Int.reducePow, Nat.reducePow, Nat.reduceLT, Nat.reduceLeDiff, Nat.reduceAdd, Int.reduceToNat, and_self, Nat.zero_le, Bool.not_true, Bool.not_false, Bool.not_eq_true, zero_add_nat, e9])
  have hll : ∀ a b : List (Int × Int), a.length ≤ 1000 → b.length ≤ 1000 → (prs a).length + (prs b).length ≤ lim := fun a b ha hb => by rw [prs_len, prs_len]; unfold lim; omega
  have l1 : 1 ≤ lim := by decide
  by_cases h0 : x % 6 = 0 ∨ ps.length = 0
  · have hb : (decide (x % 6 = 0) || decide ((ps.length : Int) = 0)) = true := by
      rcases h0 with z | z
      · simp [z]
      · simp [z]
    have S2 : ∀ (FP : FD) (k : S), FP [.lst (iL xs), .int 10, .int w, .int 18, .bl false] = some (.lst (prs qs0), true) → sSeq (sIf (bOr (mB (mOp fEq (mVar 3) (mC (.int 0)))) (mB (mOp fEq (mFn fLen (aCons (mVar 2) aNil)) (mC (.int 0))))) (sRet (mCall FP (aCons (mVar 0) (aCons (mC (.int 10)) (aCons (mVar 1) (aCons (mC (.int 18)) (aCons (mC (.bl false)) aNil))))))) sNil) k [some (.lst (iL xs), false), some (.int w, false), some (.lst (prs ps), false), some (.int (x % 6), false), none] = some (.rt (.lst (prs qs0)) true) := fun FP k ep => by
      cases hb1 : decide (x % 6 = 0) with
      | true => rw [seq_rt (by simp only [sIf, sSet, sRet, sNil, sNo, sApp, sAug, sAsg, sExpr, sFrz, sPar, sRev, sRetN, frz1, mOp, mVar, mC, mB, mNot, mAnd, mOr, mNeg, mIf, bNot, bAnd, bOr, bYes, mTup, mLst, aNil, aCons, nb, mFn, fLen, fList, fTuple, fMax2, fMin2, mIsT, isT_int_int, isT_int_bl, isT_bool_int, isT_bool_bl, isT_tuple_tup, isT_list_lst, mIsNet, mWires, mComps, mChain, fAdd_int, fSub_int, fMul_r, fMul_l, fDiv_c, fMod_c, fPow_c, fLt_int, fLe_int, fGt_int, fGe_int, fEq_int, fNe_int, fEq_bl, fNe_bl, fAdd_tup, fAdd_lst, fIx_lst, fIx_tup, fIx_frz, mSl, pNone, pSome, fIsN, fIsB, gN, gT, gsN, gTs, gsNil, gsCons, gIx, mCall, mMeth, isNetD, postC, imm, imms, List.getElem?_cons_zero, List.getElem?_cons_succ, List.set_cons_zero, List.set_cons_succ, Option.bind_some, Option.bind_none, Option.map_some, Option.map_none, Option.or_some, Option.or_none, Option.none_or, List.map_cons, List.map_nil, List.all_cons, List.all_nil, Bool.and_true, Bool.true_and, Bool.and_false, Bool.false_and, if_true, if_false, reduceCtorEq, decide_true, decide_false, ne_eq, not_true_eq_false, not_false_eq_true, List.length_cons, List.length_nil, List.getElem?_nil, List.set_nil, reduceIte, Bool.false_eq_true, Int.reduceNeg, Int.reduceLT, Int.reduceLE, Int.reducePow, Nat.reducePow, Nat.reduceLT, Nat.reduceLeDiff, Nat.reduceAdd, Int.reduceToNat, and_self, Nat.zero_le, Bool.not_true, Bool.not_false, Bool.not_eq_true, zero_add_nat, hb1, ep]; rfl)]
      | false =>
        rw [hb1, Bool.false_or] at hb
        rw [seq_rt (by simp only [sIf, sSet, sRet, sNil, sNo, sApp, sAug, sAsg, sExpr, sFrz, sPar, sRev, sRetN, frz1, mOp, mVar, mC, mB, mNot, mAnd, mOr, mNeg, mIf, bNot, bAnd, bOr, bYes, mTup, mLst, aNil, aCons, nb, mFn, fLen, fList, fTuple, fMax2, fMin2, mIsT, isT_int_int, isT_int_bl, isT_bool_int, isT_bool_bl, isT_tuple_tup, isT_list_lst, mIsNet, mWires, mComps, mChain, fAdd_int, fSub_int, fMul_r, fMul_l, fDiv_c, fMod_c, fPow_c, fLt_int, fLe_int, fGt_int, fGe_int, fEq_int, fNe_int, fEq_bl, fNe_bl, fAdd_tup, fAdd_lst, fIx_lst, fIx_tup, fIx_frz, mSl, pNone, pSome, fIsN, fIsB, gN, gT, gsN, gTs, gsNil, gsCons, gIx, mCall, mMeth, isNetD, postC, imm, imms, List.getElem?_cons_zero, List.getElem?_cons_succ, List.set_cons_zero, List.set_cons_succ, Option.bind_some, Option.bind_none, Option.map_some, Option.map_none, Option.or_some, Option.or_none, Option.none_or, List.map_cons, List.map_nil, List.all_cons, List.all_nil, Bool.and_true, Bool.true_and, Bool.and_false, Bool.false_and, if_true, if_false, reduceCtorEq, decide_true, decide_false, ne_eq, not_true_eq_false, not_false_eq_true, List.length_cons, List.length_nil, List.getElem?_nil, List.set_nil, reduceIte, Bool.false_eq_true, Int.reduceNeg, Int.reduceLT, Int.reduceLE, Int.reducePow, Nat.reducePow, Nat.reduceLT, Nat.reduceLeDiff, Nat.reduceAdd, Int.reduceToNat, and_self, Nat.zero_le, Bool.not_true, Bool.not_false, Bool.not_eq_true, zero_add_nat, hb1, prs_len, hb, ep]; rfl)]
    refine ⟨qs0, by omega, hqo, st ?_⟩
    unfold b__law_second
    rw [S1]
    exact S2 _ _ ep
  · obtain ⟨h1, h2⟩ := not_or.mp h0
    have hb1 : decide (x % 6 = 0) = false := decide_eq_false h1
    have hb2 : decide ((ps.length : Int) = 0) = false := decide_eq_false (by omega)
    have lpos : (0 : Int) < (ps.length : Int) := by omega
    have p0 := Int.emod_nonneg (x / 6) (Int.ne_of_gt lpos)
    have p1 := Int.emod_lt_of_pos (x / 6) lpos
    obtain ⟨p, hpe⟩ : ∃ p : Nat, x / 6 % (ps.length : Int) = (p : Int) := ⟨(x / 6 % (ps.length : Int)).toNat, by omega⟩
    have hpl : p < ps.length := by omega
    have ea := at_prs hpl
    have oka := h ps[p] (List.getElem_mem _)
    generalize ps[p] = q at ea oka
    have S2 : ∀ (M k : S), sSeq (sIf (bOr (mB (mOp fEq (mVar 3) (mC (.int 0)))) (mB (mOp fEq (mFn fLen (aCons (mVar 2) aNil)) (mC (.int 0))))) M sNil) k [some (.lst (iL xs), false), some (.int w, false), some (.lst (prs ps), false), some (.int (x % 6), false), none] = k [some (.lst (iL xs), false), some (.int w, false), some (.lst (prs ps), false), some (.int (x % 6), false), none] := fun M k => seq_nx (by simp only [sIf, sSet, sRet, sNil, sNo, sApp, sAug, sAsg, sExpr, sFrz, sPar, sRev, sRetN, frz1, mOp, mVar, mC, mB, mNot, mAnd, mOr, mNeg, mIf, bNot, bAnd, bOr, bYes, mTup, mLst, aNil, aCons, nb, mFn, fLen, fList, fTuple, fMax2, fMin2, mIsT, isT_int_int, isT_int_bl, isT_bool_int, isT_bool_bl, isT_tuple_tup, isT_list_lst, mIsNet, mWires, mComps, mChain, fAdd_int, fSub_int, fMul_r, fMul_l, fDiv_c, fMod_c, fPow_c, fLt_int, fLe_int, fGt_int, fGe_int, fEq_int, fNe_int, fEq_bl, fNe_bl, fAdd_tup, fAdd_lst, fIx_lst, fIx_tup, fIx_frz, mSl, pNone, pSome, fIsN, fIsB, gN, gT, gsN, gTs, gsNil, gsCons, gIx, mCall, mMeth, isNetD, postC, imm, imms, List.getElem?_cons_zero, List.getElem?_cons_succ, List.set_cons_zero, List.set_cons_succ, Option.bind_some, Option.bind_none, Option.map_some, Option.map_none, Option.or_some, Option.or_none, Option.none_or, List.map_cons, List.map_nil, List.all_cons, List.all_nil, Bool.and_true, Bool.true_and, Bool.and_false, Bool.false_and, if_true, if_false, reduceCtorEq, decide_true, decide_false, ne_eq, not_true_eq_false, not_false_eq_true, List.length_cons, List.length_nil, List.getElem?_nil, List.set_nil, reduceIte, Bool.false_eq_true, Int.reduceNeg, Int.reduceLT, Int.reduceLE, Int.reducePow, Nat.reducePow, Nat.reduceLT, Nat.reduceLeDiff, Nat.reduceAdd, Int.reduceToNat, and_self, Nat.zero_le, Bool.not_true, Bool.not_false, Bool.not_eq_true, zero_add_nat, hb1, prs_len, hb2])
    have S3 : ∀ k : S, sSeq (sSet 4 (mOp fMod (mOp fDiv (mOp fIx (mVar 0) (mC (.int 9))) (mC (.int 6))) (mFn fLen (aCons (mVar 2) aNil)))) k [some (.lst (iL xs), false), some (.int w, false), some (.lst (prs ps), false), some (.int (x % 6), false), none] = k [some (.lst (iL xs), false), some (.int w, false), some (.lst (prs ps), false), some (.int (x % 6), false), some (.int (p : Int), false)] := fun k => seq_nx (by simp only [sIf, sSet, sRet, sNil, sNo, sApp, sAug, sAsg, sExpr, sFrz, sPar, sRev, sRetN, frz1, mOp, mVar, mC, mB, mNot, mAnd, mOr, mNeg, mIf, bNot, bAnd, bOr, bYes, mTup, mLst, aNil, aCons, nb, mFn, fLen, fList, fTuple, fMax2, fMin2, mIsT, isT_int_int, isT_int_bl, isT_bool_int, isT_bool_bl, isT_tuple_tup, isT_list_lst, mIsNet, mWires, mComps, mChain, fAdd_int, fSub_int, fMul_r, fMul_l, fDiv_c, fMod_c, fPow_c, fLt_int, fLe_int, fGt_int, fGe_int, fEq_int, fNe_int, fEq_bl, fNe_bl, fAdd_tup, fAdd_lst, fIx_lst, fIx_tup, fIx_frz, mSl, pNone, pSome, fIsN, fIsB, gN, gT, gsN, gTs, gsNil, gsCons, gIx, mCall, mMeth, isNetD, postC, imm, imms, List.getElem?_cons_zero, List.getElem?_cons_succ, List.set_cons_zero, List.set_cons_succ, Option.bind_some, Option.bind_none, Option.map_some, Option.map_none, Option.or_some, Option.or_none, Option.none_or, List.map_cons, List.map_nil, List.all_cons, List.all_nil, Bool.and_true, Bool.true_and, Bool.and_false, Bool.false_and, if_true, if_false, reduceCtorEq, decide_true, decide_false, ne_eq, not_true_eq_false, not_false_eq_true, List.length_cons, List.length_nil, List.getElem?_nil, List.set_nil, reduceIte, Bool.false_eq_true, Int.reduceNeg, Int.reduceLT, Int.reduceLE, Int.reducePow, Nat.reducePow, Nat.reduceLT, Nat.reduceLeDiff, Nat.reduceAdd, Int.reduceToNat, and_self, Nat.zero_le, Bool.not_true, Bool.not_false, Bool.not_eq_true, zero_add_nat, e9, prs_len, lpos, hpe])
    obtain ⟨A, hA, oA, lA⟩ := cut_ok h hl none (some (p : Int))
    obtain ⟨B, hB, oB, lB⟩ := cut_ok h hl (some ((p : Int) + 1)) none
    obtain ⟨Cc, hC, oC, lC⟩ := cut_ok h hl (some (p : Int)) none
    obtain ⟨Dd, hD, oD, lD⟩ := cut_ok h hl (some ((p : Int) + 1)) (some ((p : Int) + 2))
    obtain ⟨Ee, hE, oE, lE⟩ := cut_ok h hl (some ((p : Int) + 2)) none
    have hq1 : [D.tup (iL [q.1, q.2])] = prs [q] := rfl
    have hq2 : [D.tup [.int q.2, .int q.1]] = prs [(q.2, q.1)] := rfl
    have oq : okP w [q] := fun z hz => by rw [List.mem_singleton] at hz; subst hz; exact oka
    have oq2 : okP w [(q.2, q.1)] := fun z hz => by
      rw [List.mem_singleton] at hz; subst hz
      obtain ⟨a1, a2, a3, a4, a5⟩ := oka
      exact ⟨a3, a4, a1, a2, fun z => a5 z.symm⟩
    have i0 : atI (iL [q.1, q.2]) 0 = some (.int q.1) := rfl
    have i1 : atI (iL [q.1, q.2]) 1 = some (.int q.2) := rfl
    have app : ∀ {a b : List (Int × Int)} {f1 f2 : Fl}, a.length ≤ 1000 → b.length ≤ 1000 → fAdd (.lst (prs a), f1) (.lst (prs b), f2) = some (.lst (prs (a ++ b)), .fresh) := fun {a b f1 f2} ha hb => by
      rw [fAdd_lst, if_pos (hll a b ha hb), prs_append]
    have lq : ∀ z : Int × Int, [z].length ≤ 1000 := fun z => by simp
    have v1 := fun {f1 f2 : Fl} => app (a := A) (b := B) (f1 := f1) (f2 := f2) (by omega) (by omega)
    have v2 := fun {f1 f2 : Fl} => app (a := A) (b := [q]) (f1 := f1) (f2 := f2) (by omega) (lq _)
    have v3 := fun {f1 f2 : Fl} => app (a := A ++ [q]) (b := Cc) (f1 := f1) (f2 := f2) (by simp; omega) (by omega)
    have v4 := fun {f1 f2 : Fl} => app (a := A) (b := Dd) (f1 := f1) (f2 := f2) (by omega) (by omega)
    have v5 := fun {f1 f2 : Fl} => app (a := A ++ Dd) (b := [q]) (f1 := f1) (f2 := f2) (by simp; omega) (lq _)
    have v6 := fun {f1 f2 : Fl} => app (a := A ++ Dd ++ [q]) (b := Ee) (f1 := f1) (f2 := f2) (by simp; omega) (by omega)
    have v7 := fun {f1 f2 : Fl} => app (a := A) (b := [(q.2, q.1)]) (f1 := f1) (f2 := f2) (by omega) (lq _)
    have v8 := fun {f1 f2 : Fl} => app (a := A ++ [(q.2, q.1)]) (b := B) (f1 := f1) (f2 := f2) (by simp; omega) (by omega)
    generalize iL [q.1, q.2] = dq at ea hq1 i0 i1
    by_cases c1 : x % 6 = 1
    · have d1 : decide (x % 6 = 1) = true := decide_eq_true c1
      refine ⟨A ++ B, by simp; omega, okP_app oA oB, st ?_⟩
      unfold b__law_second
      rw [S1, S2, S3]
      exact seq_rt (by simp only [sIf, sSet, sRet, sNil, sNo, sApp, sAug, sAsg, sExpr, sFrz, sPar, sRev, sRetN, frz1, mOp, mVar, mC, mB, mNot, mAnd, mOr, mNeg, mIf, bNot, bAnd, bOr, bYes, mTup, mLst, aNil, aCons, nb, mFn, fLen, fList, fTuple, fMax2, fMin2, mIsT, isT_int_int, isT_int_bl, isT_bool_int, isT_bool_bl, isT_tuple_tup, isT_list_lst, mIsNet, mWires, mComps, mChain, fAdd_int, fSub_int, fMul_r, fMul_l, fDiv_c, fMod_c, fPow_c, fLt_int, fLe_int, fGt_int, fGe_int, fEq_int, fNe_int, fEq_bl, fNe_bl, fAdd_tup, fAdd_lst, fIx_lst, fIx_tup, fIx_frz, mSl, pNone, pSome, fIsN, fIsB, gN, gT, gsN, gTs, gsNil, gsCons, gIx, mCall, mMeth, isNetD, postC, imm, imms, List.getElem?_cons_zero, List.getElem?_cons_succ, List.set_cons_zero, List.set_cons_succ, Option.bind_some, Option.bind_none, Option.map_some, Option.map_none, Option.or_some, Option.or_none, Option.none_or, List.map_cons, List.map_nil, List.all_cons, List.all_nil, Bool.and_true, Bool.true_and, Bool.and_false, Bool.false_and, if_true, if_false, reduceCtorEq, decide_true, decide_false, ne_eq, not_true_eq_false, not_false_eq_true, List.length_cons, List.length_nil, List.getElem?_nil, List.set_nil, reduceIte, Bool.false_eq_true, Int.reduceNeg, Int.reduceLT, Int.reduceLE, Int.reducePow, Nat.reducePow, Nat.reduceLT, Nat.reduceLeDiff, Nat.reduceAdd, Int.reduceToNat, and_self, Nat.zero_le, Bool.not_true, Bool.not_false, Bool.not_eq_true, zero_add_nat, d1, hA, hB, v1])
    · have d1 : decide (x % 6 = 1) = false := decide_eq_false c1
      have T1 : ∀ (M k : S), sSeq (sIf (mB (mOp fEq (mVar 3) (mC (.int 1)))) M sNil) k [some (.lst (iL xs), false), some (.int w, false), some (.lst (prs ps), false), some (.int (x % 6), false), some (.int (p : Int), false)] = k [some (.lst (iL xs), false), some (.int w, false), some (.lst (prs ps), false), some (.int (x % 6), false), some (.int (p : Int), false)] := fun M k => seq_nx (by simp only [sIf, sSet, sRet, sNil, sNo, sApp, sAug, sAsg, sExpr, sFrz, sPar, sRev, sRetN, frz1, mOp, mVar, mC, mB, mNot, mAnd, mOr, mNeg, mIf, bNot, bAnd, bOr, bYes, mTup, mLst, aNil, aCons, nb, mFn, fLen, fList, fTuple, fMax2, fMin2, mIsT, isT_int_int, isT_int_bl, isT_bool_int, isT_bool_bl, isT_tuple_tup, isT_list_lst, mIsNet, mWires, mComps, mChain, fAdd_int, fSub_int, fMul_r, fMul_l, fDiv_c, fMod_c, fPow_c, fLt_int, fLe_int, fGt_int, fGe_int, fEq_int, fNe_int, fEq_bl, fNe_bl, fAdd_tup, fAdd_lst, fIx_lst, fIx_tup, fIx_frz, mSl, pNone, pSome, fIsN, fIsB, gN, gT, gsN, gTs, gsNil, gsCons, gIx, mCall, mMeth, isNetD, postC, imm, imms, List.getElem?_cons_zero, List.getElem?_cons_succ, List.set_cons_zero, List.set_cons_succ, Option.bind_some, Option.bind_none, Option.map_some, Option.map_none, Option.or_some, Option.or_none, Option.none_or, List.map_cons, List.map_nil, List.all_cons, List.all_nil, Bool.and_true, Bool.true_and, Bool.and_false, Bool.false_and, if_true, if_false, reduceCtorEq, decide_true, decide_false, ne_eq, not_true_eq_false, not_false_eq_true, List.length_cons, List.length_nil, List.getElem?_nil, List.set_nil, reduceIte, Bool.false_eq_true, Int.reduceNeg, Int.reduceLT, Int.reduceLE, Int.reducePow, Nat.reducePow, Nat.reduceLT, Nat.reduceLeDiff, Nat.reduceAdd, Int.reduceToNat, and_self, Nat.zero_le, Bool.not_true, Bool.not_false, Bool.not_eq_true, zero_add_nat, d1])
      by_cases c2 : x % 6 = 2
      · have d2 : decide (x % 6 = 2) = true := decide_eq_true c2
        refine ⟨A ++ [q] ++ Cc, by simp; omega, okP_app (okP_app oA oq) oC, st ?_⟩
        unfold b__law_second
        rw [S1, S2, S3, T1]
        have R := sec2 (X := some (.lst (iL xs), false)) (W := some (.int w, false)) (C := some (.int (x % 6), false)) hA hC ea l1 (by rw [prs_len]; unfold lim; omega) (by rw [List.length_append, prs_len, prs_len]; unfold lim; simp; omega)
        rw [hq1, prs_append, prs_append] at R
        exact seq_rt (by simp only [sIf, mB, mOp, mVar, mC, List.getElem?_cons_succ, List.getElem?_cons_zero, Option.bind_some, Bool.false_eq_true, if_false, fEq_int, d2, if_true]; exact R)
      · have d2 : decide (x % 6 = 2) = false := decide_eq_false c2
        have T2 : ∀ (M k : S), sSeq (sIf (mB (mOp fEq (mVar 3) (mC (.int 2)))) M sNil) k [some (.lst (iL xs), false), some (.int w, false), some (.lst (prs ps), false), some (.int (x % 6), false), some (.int (p : Int), false)] = k [some (.lst (iL xs), false), some (.int w, false), some (.lst (prs ps), false), some (.int (x % 6), false), some (.int (p : Int), false)] := fun M k => seq_nx (by simp only [sIf, sSet, sRet, sNil, sNo, sApp, sAug, sAsg, sExpr, sFrz, sPar, sRev, sRetN, frz1, mOp, mVar, mC, mB, mNot, mAnd, mOr, mNeg, mIf, bNot, bAnd, bOr, bYes, mTup, mLst, aNil, aCons, nb, mFn, fLen, fList, fTuple, fMax2, fMin2, mIsT, isT_int_int, isT_int_bl, isT_bool_int, isT_bool_bl, isT_tuple_tup, isT_list_lst, mIsNet, mWires, mComps, mChain, fAdd_int, fSub_int, fMul_r, fMul_l, fDiv_c, fMod_c, fPow_c, fLt_int, fLe_int, fGt_int, fGe_int, fEq_int, fNe_int, fEq_bl, fNe_bl, fAdd_tup, fAdd_lst, fIx_lst, fIx_tup, fIx_frz, mSl, pNone, pSome, fIsN, fIsB, gN, gT, gsN, gTs, gsNil, gsCons, gIx, mCall, mMeth, isNetD, postC, imm, imms, List.getElem?_cons_zero, List.getElem?_cons_succ, List.set_cons_zero, List.set_cons_succ, Option.bind_some, Option.bind_none, Option.map_some, Option.map_none, Option.or_some, Option.or_none, Option.none_or, List.map_cons, List.map_nil, List.all_cons, List.all_nil, Bool.and_true, Bool.true_and, Bool.and_false, Bool.false_and, if_true, if_false, reduceCtorEq, decide_true, decide_false, ne_eq, not_true_eq_false, not_false_eq_true, List.length_cons, List.length_nil, List.getElem?_nil, List.set_nil, reduceIte, Bool.false_eq_true, Int.reduceNeg, Int.reduceLT, Int.reduceLE, Int.reducePow, Nat.reducePow, Nat.reduceLT, Nat.reduceLeDiff, Nat.reduceAdd, Int.reduceToNat, and_self, Nat.zero_le, Bool.not_true, Bool.not_false, Bool.not_eq_true, zero_add_nat, d2])
        by_cases c3 : x % 6 = 3
        · have d3 : decide (x % 6 = 3) = true := decide_eq_true c3
          refine ⟨A ++ Dd ++ [q] ++ Ee, by simp; omega, okP_app (okP_app (okP_app oA oD) oq) oE, st ?_⟩
          unfold b__law_second
          rw [S1, S2, S3, T1, T2]
          have R := sec3 (X := some (.lst (iL xs), false)) (W := some (.int w, false)) (C := some (.int (x % 6), false)) hA hD hE ea l1 (hll _ _ (by omega) (by omega)) (by rw [List.length_append, prs_len, prs_len]; unfold lim; omega) (by rw [List.length_append, List.length_append, prs_len, prs_len, prs_len]; unfold lim; simp; omega)
          rw [hq1, prs_append, prs_append, prs_append] at R
          exact seq_rt (by simp only [sIf, mB, mOp, mVar, mC, List.getElem?_cons_succ, List.getElem?_cons_zero, Option.bind_some, Bool.false_eq_true, if_false, fEq_int, d3, if_true]; exact R)
        · have d3 : decide (x % 6 = 3) = false := decide_eq_false c3
          have T3 : ∀ (M k : S), sSeq (sIf (mB (mOp fEq (mVar 3) (mC (.int 3)))) M sNil) k [some (.lst (iL xs), false), some (.int w, false), some (.lst (prs ps), false), some (.int (x % 6), false), some (.int (p : Int), false)] = k [some (.lst (iL xs), false), some (.int w, false), some (.lst (prs ps), false), some (.int (x % 6), false), some (.int (p : Int), false)] := fun M k => seq_nx (by simp only [sIf, sSet, sRet, sNil, sNo, sApp, sAug, sAsg, sExpr, sFrz, sPar, sRev, sRetN, frz1, mOp, mVar, mC, mB, mNot, mAnd, mOr, mNeg, mIf, bNot, bAnd, bOr, bYes, mTup, mLst, aNil, aCons, nb, mFn, fLen, fList, fTuple, fMax2, fMin2, mIsT, isT_int_int, isT_int_bl, isT_bool_int, isT_bool_bl, isT_tuple_tup, isT_list_lst, mIsNet, mWires, mComps, mChain, fAdd_int, fSub_int, fMul_r, fMul_l, fDiv_c, fMod_c, fPow_c, fLt_int, fLe_int, fGt_int, fGe_int, fEq_int, fNe_int, fEq_bl, fNe_bl, fAdd_tup, fAdd_lst, fIx_lst, fIx_tup, fIx_frz, mSl, pNone, pSome, fIsN, fIsB, gN, gT, gsN, gTs, gsNil, gsCons, gIx, mCall, mMeth, isNetD, postC, imm, imms, List.getElem?_cons_zero, List.getElem?_cons_succ, List.set_cons_zero, List.set_cons_succ, Option.bind_some, Option.bind_none, Option.map_some, Option.map_none, Option.or_some, Option.or_none, Option.none_or, List.map_cons, List.map_nil, List.all_cons, List.all_nil, Bool.and_true, Bool.true_and, Bool.and_false, Bool.false_and, if_true, if_false, reduceCtorEq, decide_true, decide_false, ne_eq, not_true_eq_false, not_false_eq_true, List.length_cons, List.length_nil, List.getElem?_nil, List.set_nil, reduceIte, Bool.false_eq_true, Int.reduceNeg, Int.reduceLT, Int.reduceLE, Int.reducePow, Nat.reducePow, Nat.reduceLT, Nat.reduceLeDiff, Nat.reduceAdd, Int.reduceToNat, and_self, Nat.zero_le, Bool.not_true, Bool.not_false, Bool.not_eq_true, zero_add_nat, d3])
          by_cases c4 : x % 6 = 4
          · have d4 : decide (x % 6 = 4) = true := decide_eq_true c4
            refine ⟨A ++ [(q.2, q.1)] ++ B, by simp; omega, okP_app (okP_app oA oq2) oB, st ?_⟩
            unfold b__law_second
            rw [S1, S2, S3, T1, T2, T3]
            have R := sec4 (X := some (.lst (iL xs), false)) (W := some (.int w, false)) (C := some (.int (x % 6), false)) hA hB ea i0 i1 l1 (by rw [prs_len]; unfold lim; omega) (by rw [List.length_append, prs_len, prs_len]; unfold lim; simp; omega)
            rw [hq2, prs_append, prs_append] at R
            exact seq_rt (by simp only [sIf, mB, mOp, mVar, mC, List.getElem?_cons_succ, List.getElem?_cons_zero, Option.bind_some, Bool.false_eq_true, if_false, fEq_int, d4, if_true]; exact R)
          · have d4 : decide (x % 6 = 4) = false := decide_eq_false c4
            refine ⟨ps, by omega, h, st ?_⟩
            unfold b__law_second
            rw [S1, S2, S3, T1, T2, T3, seq_nx (by simp only [sIf, sSet, sRet, sNil, sNo, sApp, sAug, sAsg, sExpr, sFrz, sPar, sRev, sRetN, frz1, mOp, mVar, mC, mB, mNot, mAnd, mOr, mNeg, mIf, bNot, bAnd, bOr, bYes, mTup, mLst, aNil, aCons, nb, mFn, fLen, fList, fTuple, fMax2, fMin2, mIsT, isT_int_int, isT_int_bl, isT_bool_int, isT_bool_bl, isT_tuple_tup, isT_list_lst, mIsNet, mWires, mComps, mChain, fAdd_int, fSub_int, fMul_r, fMul_l, fDiv_c, fMod_c, fPow_c, fLt_int, fLe_int, fGt_int, fGe_int, fEq_int, fNe_int, fEq_bl, fNe_bl, fAdd_tup, fAdd_lst, fIx_lst, fIx_tup, fIx_frz, mSl, pNone, pSome, fIsN, fIsB, gN, gT, gsN, gTs, gsNil, gsCons, gIx, mCall, mMeth, isNetD, postC, imm, imms, List.getElem?_cons_zero, List.getElem?_cons_succ, List.set_cons_zero, List.set_cons_succ, Option.bind_some, Option.bind_none, Option.map_some, Option.map_none, Option.or_some, Option.or_none, Option.none_or, List.map_cons, List.map_nil, List.all_cons, List.all_nil, Bool.and_true, Bool.true_and, Bool.and_false, Bool.false_and, if_true, if_false, reduceCtorEq, decide_true, decide_false, ne_eq, not_true_eq_false, not_false_eq_true, List.length_cons, List.length_nil, List.getElem?_nil, List.set_nil, reduceIte, Bool.false_eq_true, Int.reduceNeg, Int.reduceLT, Int.reduceLE, Int.reducePow, Nat.reducePow, Nat.reduceLT, Nat.reduceLeDiff, Nat.reduceAdd, Int.reduceToNat, and_self, Nat.zero_le, Bool.not_true, Bool.not_false, Bool.not_eq_true, zero_add_nat, d4]; rfl)]
            simp only [sIf, sSet, sRet, sNil, sNo, sApp, sAug, sAsg, sExpr, sFrz, sPar, sRev, sRetN, frz1, mOp, mVar, mC, mB, mNot, mAnd, mOr, mNeg, mIf, bNot, bAnd, bOr, bYes, mTup, mLst, aNil, aCons, nb, mFn, fLen, fList, fTuple, fMax2, fMin2, mIsT, isT_int_int, isT_int_bl, isT_bool_int, isT_bool_bl, isT_tuple_tup, isT_list_lst, mIsNet, mWires, mComps, mChain, fAdd_int, fSub_int, fMul_r, fMul_l, fDiv_c, fMod_c, fPow_c, fLt_int, fLe_int, fGt_int, fGe_int, fEq_int, fNe_int, fEq_bl, fNe_bl, fAdd_tup, fAdd_lst, fIx_lst, fIx_tup, fIx_frz, mSl, pNone, pSome, fIsN, fIsB, gN, gT, gsN, gTs, gsNil, gsCons, gIx, mCall, mMeth, isNetD, postC, imm, imms, List.getElem?_cons_zero, List.getElem?_cons_succ, List.set_cons_zero, List.set_cons_succ, Option.bind_some, Option.bind_none, Option.map_some, Option.map_none, Option.or_some, Option.or_none, Option.none_or, List.map_cons, List.map_nil, List.all_cons, List.all_nil, Bool.and_true, Bool.true_and, Bool.and_false, Bool.false_and, if_true, if_false, reduceCtorEq, decide_true, decide_false, ne_eq, not_true_eq_false, not_false_eq_true, List.length_cons, List.length_nil, List.getElem?_nil, List.set_nil, reduceIte, Bool.false_eq_true, Int.reduceNeg, Int.reduceLT, Int.reduceLE, Int.reducePow, Nat.reducePow, Nat.reduceLT, Nat.reduceLeDiff, Nat.reduceAdd, Int.reduceToNat, and_self, Nat.zero_le, Bool.not_true, Bool.not_false, Bool.not_eq_true, zero_add_nat]
theorem firstD_sym (ps qs : List (Int × Int)) : ∀ rs, firstD qs ps rs = firstD ps qs rs
  | [] => rfl
  | r :: rs => by
    unfold firstD
    rw [firstD_sym ps qs rs]
    by_cases h : runL ps r = runL qs r
    · rw [if_pos h, if_pos h.symm]
    · rw [if_neg h, if_neg (fun z => h z.symm)]
theorem firstD_self (ps : List (Int × Int)) : ∀ rs, firstD ps ps rs = .non
  | [] => rfl
  | r :: rs => by unfold firstD; rw [if_pos rfl]; exact firstD_self ps rs
theorem firstD_cases (ps qs : List (Int × Int)) : ∀ rs, (firstD ps qs rs = .non ∧ ∀ r ∈ rs, runL ps r = runL qs r) ∨ ∃ r ∈ rs, firstD ps qs rs = .tup (iL r) ∧ ¬ runL ps r = runL qs r
  | [] => .inl ⟨rfl, fun r h => by cases h⟩
  | r :: rs => by
    unfold firstD
    by_cases h : runL ps r = runL qs r
    · rw [if_pos h]
      rcases firstD_cases ps qs rs with ⟨a, b⟩ | ⟨q, a, b⟩
      · refine .inl ⟨a, fun z hz => ?_⟩
        rcases List.mem_cons.mp hz with rfl | hz
        · exact h
        · exact b z hz
      · exact .inr ⟨q, List.mem_cons_of_mem _ a, b⟩
    · rw [if_neg h]; exact .inr ⟨r, List.mem_cons_self, rfl, h⟩
theorem fNe_non {a b : Fl} : fNe (.non, a) (.non, b) = some (.bl false, .pure) := by simp [fNe, okD, isDat, py, SeqAt.shaped, PyData.canLay0, PyData.depth, PyData.eqv]
theorem fNe_first (ps qs : List (Int × Int)) (rs : List (List Int)) {a b : Fl} : fNe (firstD ps qs rs, a) (firstD ps qs rs, b) = some (.bl false, .pure) := by
  rcases firstD_cases ps qs rs with ⟨h, _⟩ | ⟨r, _, h, _⟩
  · rw [h]; exact fNe_non
  · rw [h, fNe_tup]; simp
def dubody (FL : FD) : S := (sIf (mB (mOp fNe (mCall FL (aCons (mVar 3) (aCons (mVar 6) aNil))) (mCall FL (aCons (mVar 4) (aCons (mVar 6) aNil))))) (sFrz 6 (sSet 5 (mVar 6))) sNil)
theorem du_step {FL : FD} {A0 A1 A2 A7 A8 A9 : Option (D × Bool)} {P Q : List D} {r R T : List Int} {d : D} (e1 : FL [.lst P, .tup (iL r)] = some (.tup (iL R), false)) (e2 : FL [.lst Q, .tup (iL r)] = some (.tup (iL T), false)) :
    dubody FL [A0, A1, A2, some (.lst P, true), some (.lst Q, true), some (d, false), some (.tup (iL r), false), A7, A8, A9] = some (.nx [A0, A1, A2, some (.lst P, true), some (.lst Q, true), some ((if R = T then d else .tup (iL r)), false), some (.tup (iL r), false), A7, A8, A9]) := by
  have iR := imms_iL R
  have iT := imms_iL T
  unfold dubody
  by_cases h : R = T
  · subst h; simp only [sIf, sSet, sRet, sNil, sNo, sApp, sAug, sAsg, sExpr, sFrz, sPar, sRev, sRetN, frz1, mOp, mVar, mC, mB, mNot, mAnd, mOr, mNeg, mIf, bNot, bAnd, bOr, bYes, mTup, mLst, aNil, aCons, nb, mFn, fLen, fList, fTuple, fMax2, fMin2, mIsT, isT_int_int, isT_int_bl, isT_bool_int, isT_bool_bl, isT_tuple_tup, isT_list_lst, mIsNet, mWires, mComps, mChain, fAdd_int, fSub_int, fMul_r, fMul_l, fDiv_c, fMod_c, fPow_c, fLt_int, fLe_int, fGt_int, fGe_int, fEq_int, fNe_int, fEq_bl, fNe_bl, fAdd_tup, fAdd_lst, fIx_lst, fIx_tup, fIx_frz, mSl, pNone, pSome, fIsN, fIsB, gN, gT, gsN, gTs, gsNil, gsCons, gIx, mCall, mMeth, isNetD, postC, imm, imms, List.getElem?_cons_zero, List.getElem?_cons_succ, List.set_cons_zero, List.set_cons_succ, Option.bind_some, Option.bind_none, Option.map_some, Option.map_none, Option.or_some, Option.or_none, Option.none_or, List.map_cons, List.map_nil, List.all_cons, List.all_nil, Bool.and_true, Bool.true_and, Bool.and_false, Bool.false_and, if_true, if_false, reduceCtorEq, decide_true, decide_false, ne_eq, not_true_eq_false, not_false_eq_true, List.length_cons, List.length_nil, List.getElem?_nil, List.set_nil, reduceIte, Bool.false_eq_true, Int.reduceNeg, Int.reduceLT, Int.reduceLE, Int.reducePow, Nat.reducePow, Nat.reduceLT, Nat.reduceLeDiff, Nat.reduceAdd, Int.reduceToNat, and_self, Nat.zero_le, Bool.not_true, Bool.not_false, Bool.not_eq_true, zero_add_nat, e1, e2, iR, fNe_tup]
  · simp only [sIf, sSet, sRet, sNil, sNo, sApp, sAug, sAsg, sExpr, sFrz, sPar, sRev, sRetN, frz1, mOp, mVar, mC, mB, mNot, mAnd, mOr, mNeg, mIf, bNot, bAnd, bOr, bYes, mTup, mLst, aNil, aCons, nb, mFn, fLen, fList, fTuple, fMax2, fMin2, mIsT, isT_int_int, isT_int_bl, isT_bool_int, isT_bool_bl, isT_tuple_tup, isT_list_lst, mIsNet, mWires, mComps, mChain, fAdd_int, fSub_int, fMul_r, fMul_l, fDiv_c, fMod_c, fPow_c, fLt_int, fLe_int, fGt_int, fGe_int, fEq_int, fNe_int, fEq_bl, fNe_bl, fAdd_tup, fAdd_lst, fIx_lst, fIx_tup, fIx_frz, mSl, pNone, pSome, fIsN, fIsB, gN, gT, gsN, gTs, gsNil, gsCons, gIx, mCall, mMeth, isNetD, postC, imm, imms, List.getElem?_cons_zero, List.getElem?_cons_succ, List.set_cons_zero, List.set_cons_succ, Option.bind_some, Option.bind_none, Option.map_some, Option.map_none, Option.or_some, Option.or_none, Option.none_or, List.map_cons, List.map_nil, List.all_cons, List.all_nil, Bool.and_true, Bool.true_and, Bool.and_false, Bool.false_and, if_true, if_false, reduceCtorEq, decide_true, decide_false, ne_eq, not_true_eq_false, not_false_eq_true, List.length_cons, List.length_nil, List.getElem?_nil, List.set_nil, reduceIte, Bool.false_eq_true, Int.reduceNeg, Int.reduceLT, Int.reduceLE, Int.reducePow, Nat.reducePow, Nat.reduceLT, Nat.reduceLeDiff, Nat.reduceAdd, Int.reduceToNat, and_self, Nat.zero_le, Bool.not_true, Bool.not_false, Bool.not_eq_true, zero_add_nat, e1, e2, iR, iT, fNe_tup, h]
theorem du_loop {FL : FD} {n : Nat} {A0 A1 A2 A7 A8 A9 : Option (D × Bool)} {ps qs : List (Int × Int)} (hp : ∀ r : List Int, r.length = n → FL [.lst (prs ps), .tup (iL r)] = some (.tup (iL (runL ps r)), false)) (hq : ∀ r : List Int, r.length = n → FL [.lst (prs qs), .tup (iL r)] = some (.tup (iL (runL qs r)), false)) :
    ∀ (rs done : List (List Int)) (o : Option (D × Bool)), (∀ r ∈ rs, r.length = n) → ∃ o', forGo (gN 6) (dubody FL) (rws rs) [A0, A1, A2, some (.lst (prs ps), true), some (.lst (prs qs), true), some (firstD ps qs done, false), o, A7, A8, A9] = some (.nx [A0, A1, A2, some (.lst (prs ps), true), some (.lst (prs qs), true), some (firstD ps qs (rs.reverse ++ done), false), o', A7, A8, A9])
  | [], done, o, _ => ⟨o, rfl⟩
  | r :: rs, done, o, h => by
    have hr := h r List.mem_cons_self
    have s1 := du_step (A0 := A0) (A1 := A1) (A2 := A2) (A7 := A7) (A8 := A8) (A9 := A9) (d := firstD ps qs done) (hp r hr) (hq r hr)
    obtain ⟨o', ih⟩ := du_loop (A0 := A0) (A1 := A1) (A2 := A2) (A7 := A7) (A8 := A8) (A9 := A9) hp hq rs (r :: done) (some (.tup (iL r), false)) (fun q hq => h q (List.mem_cons_of_mem _ hq))
    refine ⟨o', ?_⟩
    have hg : gN 6 (.tup (iL r)) [A0, A1, A2, some (.lst (prs ps), true), some (.lst (prs qs), true), some (firstD ps qs done, false), o, A7, A8, A9] = some [A0, A1, A2, some (.lst (prs ps), true), some (.lst (prs qs), true), some (firstD ps qs done, false), some (.tup (iL r), false), A7, A8, A9] := by simp only [gN, List.set_cons_succ, List.set_cons_zero]
    show forGo _ _ (.tup (iL r) :: rws rs) _ = _
    rw [forGo_nx hg s1]
    rw [List.reverse_cons, List.append_assoc]
    exact ih
def robody (FW FR : FD) : S := (sSeq (sSet 6 (mCall FW (aCons (mVar 1) (aCons (mOp fAdd (mC (.int 18)) (mOp fMul (mC (.int 2)) (mVar 9))) (aCons (mVar 2) aNil))))) (sIf (bAnd (mB (mOp (fIsN false) (mVar 5) (mC .non))) (mB (mOp fNe (mMeth FR (mVar 7) (aCons (mVar 6) aNil)) (mMeth FR (mVar 8) (aCons (mVar 6) aNil))))) (sRet (mC (.bl false))) sNil))
theorem ro_step {FW FR : FD} {A0 A3 A4 A6 : Option (D × Bool)} {X P Q : List D} {n k : Int} {d : D} {r R T : List Int} (ew : FW [.lst X, .int (18 + 2 * k), .int n] = some (.tup (iL r), false)) (e1 : FR [.net n (.tup P), .tup (iL r)] = some (.tup (iL R), false)) (e2 : FR [.net n (.tup Q), .tup (iL r)] = some (.tup (iL T), false)) (hk : -18446744073709551616 < k ∧ k < 18446744073709551616)
    (hd : (d = .non ∧ R = T) ∨ ∃ q, d = .tup (iL q)) :
    robody FW FR [A0, some (.lst X, false), some (.int n, false), A3, A4, some (d, false), A6, some (.net n (.tup P), false), some (.net n (.tup Q), false), some (.int k, false)] = some (.nx [A0, some (.lst X, false), some (.int n, false), A3, A4, some (d, false), some (.tup (iL r), false), some (.net n (.tup P), false), some (.net n (.tup Q), false), some (.int k, false)]) := by
  unfold robody
  rw [seq_nx (by simp only [sIf, sSet, sRet, sNil, sNo, sApp, sAug, sAsg, sExpr, sFrz, sPar, sRev, sRetN, frz1, mOp, mVar, mC, mB, mNot, mAnd, mOr, mNeg, mIf, bNot, bAnd, bOr, bYes, mTup, mLst, aNil, aCons, nb, mFn, fLen, fList, fTuple, fMax2, fMin2, mIsT, isT_int_int, isT_int_bl, isT_bool_int, isT_bool_bl, isT_tuple_tup, isT_list_lst, mIsNet, mWires, mComps, mChain, fAdd_int, fSub_int, fMul_r, fMul_l, fDiv_c, fMod_c, fPow_c, fLt_int, fLe_int, fGt_int, fGe_int, fEq_int, fNe_int, fEq_bl, fNe_bl, fAdd_tup, fAdd_lst, fIx_lst, fIx_tup, fIx_frz, mSl, pNone, pSome, fIsN, fIsB, gN, gT, gsN, gTs, gsNil, gsCons, gIx, mCall, mMeth, isNetD, postC, imm, imms, List.getElem?_cons_zero, List.getElem?_cons_succ, List.set_cons_zero, List.set_cons_succ, Option.bind_some, Option.bind_none, Option.map_some, Option.map_none, Option.or_some, Option.or_none, Option.none_or, List.map_cons, List.map_nil, List.all_cons, List.all_nil, Bool.and_true, Bool.true_and, Bool.and_false, Bool.false_and, if_true, if_false, reduceCtorEq, decide_true, decide_false, ne_eq, not_true_eq_false, not_false_eq_true, List.length_cons, List.length_nil, List.getElem?_nil, List.set_nil, reduceIte, Bool.false_eq_true, Int.reduceNeg, Int.reduceLT, Int.reduceLE, Int.reducePow, Nat.reducePow, Nat.reduceLT, Nat.reduceLeDiff, Nat.reduceAdd, Int.reduceToNat, and_self, Nat.zero_le, Bool.not_true, Bool.not_false, Bool.not_eq_true, zero_add_nat, ew, hk]; rfl)]
  rcases hd with ⟨rfl, rfl⟩ | ⟨q, rfl⟩
  · simp only [sIf, sSet, sRet, sNil, sNo, sApp, sAug, sAsg, sExpr, sFrz, sPar, sRev, sRetN, frz1, mOp, mVar, mC, mB, mNot, mAnd, mOr, mNeg, mIf, bNot, bAnd, bOr, bYes, mTup, mLst, aNil, aCons, nb, mFn, fLen, fList, fTuple, fMax2, fMin2, mIsT, isT_int_int, isT_int_bl, isT_bool_int, isT_bool_bl, isT_tuple_tup, isT_list_lst, mIsNet, mWires, mComps, mChain, fAdd_int, fSub_int, fMul_r, fMul_l, fDiv_c, fMod_c, fPow_c, fLt_int, fLe_int, fGt_int, fGe_int, fEq_int, fNe_int, fEq_bl, fNe_bl, fAdd_tup, fAdd_lst, fIx_lst, fIx_tup, fIx_frz, mSl, pNone, pSome, fIsN, fIsB, gN, gT, gsN, gTs, gsNil, gsCons, gIx, mCall, mMeth, isNetD, postC, imm, imms, List.getElem?_cons_zero, List.getElem?_cons_succ, List.set_cons_zero, List.set_cons_succ, Option.bind_some, Option.bind_none, Option.map_some, Option.map_none, Option.or_some, Option.or_none, Option.none_or, List.map_cons, List.map_nil, List.all_cons, List.all_nil, Bool.and_true, Bool.true_and, Bool.and_false, Bool.false_and, if_true, if_false, reduceCtorEq, decide_true, decide_false, ne_eq, not_true_eq_false, not_false_eq_true, List.length_cons, List.length_nil, List.getElem?_nil, List.set_nil, reduceIte, Bool.false_eq_true, Int.reduceNeg, Int.reduceLT, Int.reduceLE, Int.reducePow, Nat.reducePow, Nat.reduceLT, Nat.reduceLeDiff, Nat.reduceAdd, Int.reduceToNat, and_self, Nat.zero_le, Bool.not_true, Bool.not_false, Bool.not_eq_true, zero_add_nat, e1, e2, fNe_tup]
  · simp only [sIf, sSet, sRet, sNil, sNo, sApp, sAug, sAsg, sExpr, sFrz, sPar, sRev, sRetN, frz1, mOp, mVar, mC, mB, mNot, mAnd, mOr, mNeg, mIf, bNot, bAnd, bOr, bYes, mTup, mLst, aNil, aCons, nb, mFn, fLen, fList, fTuple, fMax2, fMin2, mIsT, isT_int_int, isT_int_bl, isT_bool_int, isT_bool_bl, isT_tuple_tup, isT_list_lst, mIsNet, mWires, mComps, mChain, fAdd_int, fSub_int, fMul_r, fMul_l, fDiv_c, fMod_c, fPow_c, fLt_int, fLe_int, fGt_int, fGe_int, fEq_int, fNe_int, fEq_bl, fNe_bl, fAdd_tup, fAdd_lst, fIx_lst, fIx_tup, fIx_frz, mSl, pNone, pSome, fIsN, fIsB, gN, gT, gsN, gTs, gsNil, gsCons, gIx, mCall, mMeth, isNetD, postC, imm, imms, List.getElem?_cons_zero, List.getElem?_cons_succ, List.set_cons_zero, List.set_cons_succ, Option.bind_some, Option.bind_none, Option.map_some, Option.map_none, Option.or_some, Option.or_none, Option.none_or, List.map_cons, List.map_nil, List.all_cons, List.all_nil, Bool.and_true, Bool.true_and, Bool.and_false, Bool.false_and, if_true, if_false, reduceCtorEq, decide_true, decide_false, ne_eq, not_true_eq_false, not_false_eq_true, List.length_cons, List.length_nil, List.getElem?_nil, List.set_nil, reduceIte, Bool.false_eq_true, Int.reduceNeg, Int.reduceLT, Int.reduceLE, Int.reducePow, Nat.reducePow, Nat.reduceLT, Nat.reduceLeDiff, Nat.reduceAdd, Int.reduceToNat, and_self, Nat.zero_le, Bool.not_true, Bool.not_false, Bool.not_eq_true, zero_add_nat, e1, e2, fNe_tup]
theorem pa_step {F6 : FD} {A0 A1 A2 A3 A4 A6 A9 : Option (D × Bool)} {n : Int} {P Q : List D} {due : D} (pa1 : F6 [.net n (.tup P), .net n (.tup Q)] = some (due, false)) (pa2 : F6 [.net n (.tup Q), .net n (.tup P)] = some (due, false)) (pa3 : F6 [.net n (.tup P), .net n (.tup P)] = some (.non, false)) (fne : ∀ {a b : Fl}, fNe (due, a) (due, b) = some (.bl false, .pure)) :
    sIf (bOr (mB (mOp fNe (mCall F6 (aCons (mVar 7) (aCons (mVar 8) aNil))) (mVar 5))) (bOr (mB (mOp fNe (mCall F6 (aCons (mVar 8) (aCons (mVar 7) aNil))) (mVar 5))) (mB (mOp (fIsN true) (mCall F6 (aCons (mVar 7) (aCons (mVar 7) aNil))) (mC .non))))) (sRet (mC (.bl false))) sNil [A0, A1, A2, A3, A4, some (due, false), A6, some (.net n (.tup P), false), some (.net n (.tup Q), false), A9] = some (.nx [A0, A1, A2, A3, A4, some (due, false), A6, some (.net n (.tup P), false), some (.net n (.tup Q), false), A9]) := by
  simp only [sIf, sSet, sRet, sNil, sNo, sApp, sAug, sAsg, sExpr, sFrz, sPar, sRev, sRetN, frz1, mOp, mVar, mC, mB, mNot, mAnd, mOr, mNeg, mIf, bNot, bAnd, bOr, bYes, mTup, mLst, aNil, aCons, nb, mFn, fLen, fList, fTuple, fMax2, fMin2, mIsT, isT_int_int, isT_int_bl, isT_bool_int, isT_bool_bl, isT_tuple_tup, isT_list_lst, mIsNet, mWires, mComps, mChain, fAdd_int, fSub_int, fMul_r, fMul_l, fDiv_c, fMod_c, fPow_c, fLt_int, fLe_int, fGt_int, fGe_int, fEq_int, fNe_int, fEq_bl, fNe_bl, fAdd_tup, fAdd_lst, fIx_lst, fIx_tup, fIx_frz, mSl, pNone, pSome, fIsN, fIsB, gN, gT, gsN, gTs, gsNil, gsCons, gIx, mCall, mMeth, isNetD, postC, imm, imms, List.getElem?_cons_zero, List.getElem?_cons_succ, List.set_cons_zero, List.set_cons_succ, Option.bind_some, Option.bind_none, Option.map_some, Option.map_none, Option.or_some, Option.or_none, Option.none_or, List.map_cons, List.map_nil, List.all_cons, List.all_nil, Bool.and_true, Bool.true_and, Bool.and_false, Bool.false_and, if_true, if_false, reduceCtorEq, decide_true, decide_false, ne_eq, not_true_eq_false, not_false_eq_true, List.length_cons, List.length_nil, List.getElem?_nil, List.set_nil, reduceIte, Bool.false_eq_true, Int.reduceNeg, Int.reduceLT, Int.reduceLE, Int.reducePow, Nat.reducePow, Nat.reduceLT, Nat.reduceLeDiff, Nat.reduceAdd, Int.reduceToNat, and_self, Nat.zero_le, Bool.not_true, Bool.not_false, Bool.not_eq_true, zero_add_nat, pa1, pa2, pa3, fne]
theorem fin_step {F8 : FD} {A0 A1 A2 A3 A4 A6 A9 : Option (D × Bool)} {n : Int} {P Q : List D} {due : D} (hdue : due = .non ∨ ∃ q R T : List Int, due = .tup (iL q) ∧ F8 [.net n (.tup P), .tup (iL q)] = some (.tup (iL R), false) ∧ F8 [.net n (.tup Q), .tup (iL q)] = some (.tup (iL T), false) ∧ ¬ R = T) :
    sRet (mOr (mOp (fIsN false) (mVar 5) (mC .non)) (mAnd (mIsT "tuple" (mVar 5)) (mOp fNe (mMeth F8 (mVar 7) (aCons (mVar 5) aNil)) (mMeth F8 (mVar 8) (aCons (mVar 5) aNil))))) [A0, A1, A2, A3, A4, some (due, false), A6, some (.net n (.tup P), false), some (.net n (.tup Q), false), A9] = some (.rt (.bl true) false) := by
  rcases hdue with rfl | ⟨q, R, T, rfl, e1, e2, hne⟩
  · simp only [sIf, sSet, sRet, sNil, sNo, sApp, sAug, sAsg, sExpr, sFrz, sPar, sRev, sRetN, frz1, mOp, mVar, mC, mB, mNot, mAnd, mOr, mNeg, mIf, bNot, bAnd, bOr, bYes, mTup, mLst, aNil, aCons, nb, mFn, fLen, fList, fTuple, fMax2, fMin2, mIsT, isT_int_int, isT_int_bl, isT_bool_int, isT_bool_bl, isT_tuple_tup, isT_list_lst, mIsNet, mWires, mComps, mChain, fAdd_int, fSub_int, fMul_r, fMul_l, fDiv_c, fMod_c, fPow_c, fLt_int, fLe_int, fGt_int, fGe_int, fEq_int, fNe_int, fEq_bl, fNe_bl, fAdd_tup, fAdd_lst, fIx_lst, fIx_tup, fIx_frz, mSl, pNone, pSome, fIsN, fIsB, gN, gT, gsN, gTs, gsNil, gsCons, gIx, mCall, mMeth, isNetD, postC, imm, imms, List.getElem?_cons_zero, List.getElem?_cons_succ, List.set_cons_zero, List.set_cons_succ, Option.bind_some, Option.bind_none, Option.map_some, Option.map_none, Option.or_some, Option.or_none, Option.none_or, List.map_cons, List.map_nil, List.all_cons, List.all_nil, Bool.and_true, Bool.true_and, Bool.and_false, Bool.false_and, if_true, if_false, reduceCtorEq, decide_true, decide_false, ne_eq, not_true_eq_false, not_false_eq_true, List.length_cons, List.length_nil, List.getElem?_nil, List.set_nil, reduceIte, Bool.false_eq_true, Int.reduceNeg, Int.reduceLT, Int.reduceLE, Int.reducePow, Nat.reducePow, Nat.reduceLT, Nat.reduceLeDiff, Nat.reduceAdd, Int.reduceToNat, and_self, Nat.zero_le, Bool.not_true, Bool.not_false, Bool.not_eq_true, zero_add_nat]
  · simp only [sIf, sSet, sRet, sNil, sNo, sApp, sAug, sAsg, sExpr, sFrz, sPar, sRev, sRetN, frz1, mOp, mVar, mC, mB, mNot, mAnd, mOr, mNeg, mIf, bNot, bAnd, bOr, bYes, mTup, mLst, aNil, aCons, nb, mFn, fLen, fList, fTuple, fMax2, fMin2, mIsT, isT_int_int, isT_int_bl, isT_bool_int, isT_bool_bl, isT_tuple_tup, isT_list_lst, mIsNet, mWires, mComps, mChain, fAdd_int, fSub_int, fMul_r, fMul_l, fDiv_c, fMod_c, fPow_c, fLt_int, fLe_int, fGt_int, fGe_int, fEq_int, fNe_int, fEq_bl, fNe_bl, fAdd_tup, fAdd_lst, fIx_lst, fIx_tup, fIx_frz, mSl, pNone, pSome, fIsN, fIsB, gN, gT, gsN, gTs, gsNil, gsCons, gIx, mCall, mMeth, isNetD, postC, imm, imms, List.getElem?_cons_zero, List.getElem?_cons_succ, List.set_cons_zero, List.set_cons_succ, Option.bind_some, Option.bind_none, Option.map_some, Option.map_none, Option.or_some, Option.or_none, Option.none_or, List.map_cons, List.map_nil, List.all_cons, List.all_nil, Bool.and_true, Bool.true_and, Bool.and_false, Bool.false_and, if_true, if_false, reduceCtorEq, decide_true, decide_false, ne_eq, not_true_eq_false, not_false_eq_true, List.length_cons, List.length_nil, List.getElem?_nil, List.set_nil, reduceIte, Bool.false_eq_true, Int.reduceNeg, Int.reduceLT, Int.reduceLE, Int.reducePow, Nat.reducePow, Nat.reduceLT, Nat.reduceLeDiff, Nat.reduceAdd, Int.reduceToNat, and_self, Nat.zero_le, Bool.not_true, Bool.not_false, Bool.not_eq_true, zero_add_nat, e1, e2, fNe_tup, hne]
theorem rv_step {F4 : FD} {A0 A1 A3 A4 A5 A6 A7 A8 A9 : Option (D × Bool)} {n : Int} {R : List D} {fl : Bool} (e : F4 [.int n] = some (.lst R, fl)) : iRv false (mCall F4 (aCons (mVar 2) aNil)) [A0, A1, some (.int n, false), A3, A4, A5, A6, A7, A8, A9] = some R.reverse := by
  cases fl
  all_goals simp only [iRv, iS, sIf, sSet, sRet, sNil, sNo, sApp, sAug, sAsg, sExpr, sFrz, sPar, sRev, sRetN, frz1, mOp, mVar, mC, mB, mNot, mAnd, mOr, mNeg, mIf, bNot, bAnd, bOr, bYes, mTup, mLst, aNil, aCons, nb, mFn, fLen, fList, fTuple, fMax2, fMin2, mIsT, isT_int_int, isT_int_bl, isT_bool_int, isT_bool_bl, isT_tuple_tup, isT_list_lst, mIsNet, mWires, mComps, mChain, fAdd_int, fSub_int, fMul_r, fMul_l, fDiv_c, fMod_c, fPow_c, fLt_int, fLe_int, fGt_int, fGe_int, fEq_int, fNe_int, fEq_bl, fNe_bl, fAdd_tup, fAdd_lst, fIx_lst, fIx_tup, fIx_frz, mSl, pNone, pSome, fIsN, fIsB, gN, gT, gsN, gTs, gsNil, gsCons, gIx, mCall, mMeth, isNetD, postC, imm, imms, List.getElem?_cons_zero, List.getElem?_cons_succ, List.set_cons_zero, List.set_cons_succ, Option.bind_some, Option.bind_none, Option.map_some, Option.map_none, Option.or_some, Option.or_none, Option.none_or, List.map_cons, List.map_nil, List.all_cons, List.all_nil, Bool.and_true, Bool.true_and, Bool.and_false, Bool.false_and, if_true, if_false, reduceCtorEq, decide_true, decide_false, ne_eq, not_true_eq_false, not_false_eq_true, List.length_cons, List.length_nil, List.getElem?_nil, List.set_nil, reduceIte, Bool.false_eq_true, Int.reduceNeg, Int.reduceLT, Int.reduceLE, Int.reducePow, Nat.reducePow, Nat.reduceLT, Nat.reduceLeDiff, Nat.reduceAdd, Int.reduceToNat, and_self, Nat.zero_le, Bool.not_true, Bool.not_false, Bool.not_eq_true, zero_add_nat, e, Bool.false_or]
theorem law_true (ns : List Int) (hns : ns.length ≤ 63) : f_law [.frz ns] = some (.bl true, false) := by
  obtain ⟨xs, hxl, hx, en⟩ := numbers_ok ns 25 (by omega)
  have nat25 : ((25 : Nat) : Int) = 25 := rfl
  rw [nat25] at en
  obtain ⟨x0, e0, m0, _⟩ := at_nn (xs := xs) (i := 0) (by omega) (by omega)
  obtain ⟨x1, e1, m1, _⟩ := at_nn (xs := xs) (i := 1) (by omega) (by omega)
  obtain ⟨x8, e8, m8, _⟩ := at_nn (xs := xs) (i := 8) (by omega) (by omega)
  have q1 := Int.emod_nonneg x0 (by decide : (6 : Int) ≠ 0)
  have q2 := Int.emod_lt_of_pos x0 (by decide : (0 : Int) < 6)
  have q3 := Int.emod_nonneg (x0 / 48) (by decide : (2 : Int) ≠ 0)
  have q4 := Int.emod_lt_of_pos (x0 / 48) (by decide : (0 : Int) < 2)
  obtain ⟨n, hw1, hn12, hwires⟩ : ∃ n : Nat, 1 ≤ n ∧ n ≤ 12 ∧ ∀ k : S, sSeq (sFrz 1 (sSet 2 (mOp fAdd (mOp fMod (mOp fIx (mVar 1) (mC (.int 0))) (mC (.int 6))) (mC (.int 1))))) (sSeq (sIf (mB (mOp fEq (mOp fMod (mOp fDiv (mOp fIx (mVar 1) (mC (.int 0))) (mC (.int 6))) (mC (.int 8))) (mC (.int 1)))) (sSet 2 (mOp fAdd (mC (.int 7)) (mOp fMod (mOp fDiv (mOp fIx (mVar 1) (mC (.int 0))) (mC (.int 48))) (mC (.int 2))))) sNil) k)
      [some (.frz ns, false), some (.lst (iL xs), true), none, none, none, none, none, none, none, none] = k [some (.frz ns, false), some (.lst (iL xs), false), some (.int (n : Int), false), none, none, none, none, none, none, none] := by
    cases hb : decide (x0 / 6 % 8 = 1) with
    | true =>
      have cn : ((7 + x0 / 48 % 2).toNat : Int) = 7 + x0 / 48 % 2 := Int.toNat_of_nonneg (by omega)
      refine ⟨(7 + x0 / 48 % 2).toNat, by omega, by omega, fun k => ?_⟩
      rw [seq_nx (by simp only [sIf, sSet, sRet, sNil, sNo, sApp, sAug, sAsg, sExpr, sFrz, sPar, sRev, sRetN, frz1, mOp, mVar, mC, mB, mNot, mAnd, mOr, mNeg, mIf, bNot, bAnd, bOr, bYes, mTup, mLst, aNil, aCons, nb, mFn, fLen, fList, fTuple, fMax2, fMin2, mIsT, isT_int_int, isT_int_bl, isT_bool_int, isT_bool_bl, isT_tuple_tup, isT_list_lst, mIsNet, mWires, mComps, mChain, fAdd_int, fSub_int, fMul_r, fMul_l, fDiv_c, fMod_c, fPow_c, fLt_int, fLe_int, fGt_int, fGe_int, fEq_int, fNe_int, fEq_bl, fNe_bl, fAdd_tup, fAdd_lst, fIx_lst, fIx_tup, fIx_frz, mSl, pNone, pSome, fIsN, fIsB, gN, gT, gsN, gTs, gsNil, gsCons, gIx, mCall, mMeth, isNetD, postC, imm, imms, List.getElem?_cons_zero, List.getElem?_cons_succ, List.set_cons_zero, List.set_cons_succ, Option.bind_some, Option.bind_none, Option.map_some, Option.map_none, Option.or_some, Option.or_none, Option.none_or, List.map_cons, List.map_nil, List.all_cons, List.all_nil, Bool.and_true, Bool.true_and, Bool.and_false, Bool.false_and, if_true, if_false, reduceCtorEq, decide_true, decide_false, ne_eq, not_true_eq_false, not_false_eq_true, List.length_cons, List.length_nil, List.getElem?_nil, List.set_nil, reduceIte, Bool.false_eq_true, Int.reduceNeg, Int.reduceLT, Int.reduceLE, Int.reducePow, Nat.reducePow, Nat.reduceLT, Nat.reduceLeDiff, Nat.reduceAdd, Int.reduceToNat, and_self, Nat.zero_le, Bool.not_true, Bool.not_false, Bool.not_eq_true, zero_add_nat, e0]; rfl), seq_nx (by simp only [sIf, sSet, sRet, sNil, sNo, sApp, sAug, sAsg, sExpr, sFrz, sPar, sRev, sRetN, frz1, mOp, mVar, mC, mB, mNot, mAnd, mOr, mNeg, mIf, bNot, bAnd, bOr, bYes, mTup, mLst, aNil, aCons, nb, mFn, fLen, fList, fTuple, fMax2, fMin2, mIsT, isT_int_int, isT_int_bl, isT_bool_int, isT_bool_bl, isT_tuple_tup, isT_list_lst, mIsNet, mWires, mComps, mChain, fAdd_int, fSub_int, fMul_r, fMul_l, fDiv_c, fMod_c, fPow_c, fLt_int, fLe_int, fGt_int, fGe_int, fEq_int, fNe_int, fEq_bl, fNe_bl, fAdd_tup, fAdd_lst, fIx_lst, fIx_tup, fIx_frz, mSl, pNone, pSome, fIsN, fIsB, gN, gT, gsN, gTs, gsNil, gsCons, gIx, mCall, mMeth, isNetD, postC, imm, imms, List.getElem?_cons_zero, List.getElem?_cons_succ, List.set_cons_zero, List.set_cons_succ, Option.bind_some, Option.bind_none, Option.map_some, Option.map_none, Option.or_some, Option.or_none, Option.none_or, List.map_cons, List.map_nil, List.all_cons, List.all_nil, Bool.and_true, Bool.true_and, Bool.and_false, Bool.false_and, if_true, if_false, reduceCtorEq, decide_true, decide_false, ne_eq, not_true_eq_false, not_false_eq_true, List.length_cons, List.length_nil, List.getElem?_nil, List.set_nil, reduceIte, Bool.false_eq_true, Int.reduceNeg, Int.reduceLT, Int.reduceLE, Int.reducePow, Nat.reducePow, Nat.reduceLT, Nat.reduceLeDiff, Nat.reduceAdd, Int.reduceToNat, and_self, Nat.zero_le, Bool.not_true, Bool.not_false, Bool.not_eq_true, zero_add_nat, e0, hb]; rfl), cn]
    | false =>
      have cn : ((x0 % 6 + 1).toNat : Int) = x0 % 6 + 1 := Int.toNat_of_nonneg (by omega)
      refine ⟨(x0 % 6 + 1).toNat, by omega, by omega, fun k => ?_⟩
      rw [seq_nx (by simp only [sIf, sSet, sRet, sNil, sNo, sApp, sAug, sAsg, sExpr, sFrz, sPar, sRev, sRetN, frz1, mOp, mVar, mC, mB, mNot, mAnd, mOr, mNeg, mIf, bNot, bAnd, bOr, bYes, mTup, mLst, aNil, aCons, nb, mFn, fLen, fList, fTuple, fMax2, fMin2, mIsT, isT_int_int, isT_int_bl, isT_bool_int, isT_bool_bl, isT_tuple_tup, isT_list_lst, mIsNet, mWires, mComps, mChain, fAdd_int, fSub_int, fMul_r, fMul_l, fDiv_c, fMod_c, fPow_c, fLt_int, fLe_int, fGt_int, fGe_int, fEq_int, fNe_int, fEq_bl, fNe_bl, fAdd_tup, fAdd_lst, fIx_lst, fIx_tup, fIx_frz, mSl, pNone, pSome, fIsN, fIsB, gN, gT, gsN, gTs, gsNil, gsCons, gIx, mCall, mMeth, isNetD, postC, imm, imms, List.getElem?_cons_zero, List.getElem?_cons_succ, List.set_cons_zero, List.set_cons_succ, Option.bind_some, Option.bind_none, Option.map_some, Option.map_none, Option.or_some, Option.or_none, Option.none_or, List.map_cons, List.map_nil, List.all_cons, List.all_nil, Bool.and_true, Bool.true_and, Bool.and_false, Bool.false_and, if_true, if_false, reduceCtorEq, decide_true, decide_false, ne_eq, not_true_eq_false, not_false_eq_true, List.length_cons, List.length_nil, List.getElem?_nil, List.set_nil, reduceIte, Bool.false_eq_true, Int.reduceNeg, Int.reduceLT, Int.reduceLE, Int.reducePow, Nat.reducePow, Nat.reduceLT, Nat.reduceLeDiff, Nat.reduceAdd, Int.reduceToNat, and_self, Nat.zero_le, Bool.not_true, Bool.not_false, Bool.not_eq_true, zero_add_nat, e0]; rfl), seq_nx (by simp only [sIf, sSet, sRet, sNil, sNo, sApp, sAug, sAsg, sExpr, sFrz, sPar, sRev, sRetN, frz1, mOp, mVar, mC, mB, mNot, mAnd, mOr, mNeg, mIf, bNot, bAnd, bOr, bYes, mTup, mLst, aNil, aCons, nb, mFn, fLen, fList, fTuple, fMax2, fMin2, mIsT, isT_int_int, isT_int_bl, isT_bool_int, isT_bool_bl, isT_tuple_tup, isT_list_lst, mIsNet, mWires, mComps, mChain, fAdd_int, fSub_int, fMul_r, fMul_l, fDiv_c, fMod_c, fPow_c, fLt_int, fLe_int, fGt_int, fGe_int, fEq_int, fNe_int, fEq_bl, fNe_bl, fAdd_tup, fAdd_lst, fIx_lst, fIx_tup, fIx_frz, mSl, pNone, pSome, fIsN, fIsB, gN, gT, gsN, gTs, gsNil, gsCons, gIx, mCall, mMeth, isNetD, postC, imm, imms, List.getElem?_cons_zero, List.getElem?_cons_succ, List.set_cons_zero, List.set_cons_succ, Option.bind_some, Option.bind_none, Option.map_some, Option.map_none, Option.or_some, Option.or_none, Option.none_or, List.map_cons, List.map_nil, List.all_cons, List.all_nil, Bool.and_true, Bool.true_and, Bool.and_false, Bool.false_and, if_true, if_false, reduceCtorEq, decide_true, decide_false, ne_eq, not_true_eq_false, not_false_eq_true, List.length_cons, List.length_nil, List.getElem?_nil, List.set_nil, reduceIte, Bool.false_eq_true, Int.reduceNeg, Int.reduceLT, Int.reduceLE, Int.reducePow, Nat.reducePow, Nat.reduceLT, Nat.reduceLeDiff, Nat.reduceAdd, Int.reduceToNat, and_self, Nat.zero_le, Bool.not_true, Bool.not_false, Bool.not_eq_true, zero_add_nat, e0, hb]; rfl), cn]
  obtain ⟨ps0, hpl0, hps0, _, ep⟩ := pairsB_ok (F := f__law_pairs_k26) rfl (xs := xs) (place := 1) (w := (n : Int)) (many := 18) (std := decide (x8 % 2 = 1)) hx (by omega) (by omega) (by omega) (by omega) (by omega)
  have nat18 : ((18 : Nat) : Int) = 18 := rfl
  rw [nat18] at ep
  have n40 : ((40 : Nat) : Int) = 40 := rfl
  have n100 : ((100 : Nat) : Int) = 100 := rfl
  have r1 : ∀ {a b : Fl}, fMul (.lst (prs ps0), a) (.int 40, b) = some (.lst (prs (List.replicate 40 ps0).flatten), .fresh) := fun {a b} => by
    rw [← n40, fMul_rep (by rw [prs_len]; omega) (by omega), prs_rep]
  have t1 : ∀ ts : List (Int × Int), cutD (prs ts) none (some 100) = prs (ts.take 100) := fun ts => by rw [prs_cut, ← n100, cut_to]
  obtain ⟨ps, hpl, hps, hmany⟩ : ∃ ps : List (Int × Int), ps.length ≤ 100 ∧ okP n ps ∧ ∀ k : S, sSeq (sIf (mB (mOp fEq (mOp fMod (mOp fDiv (mOp fIx (mVar 1) (mC (.int 1))) (mC (.int 19))) (mC (.int 16))) (mC (.int 3)))) (sSet 3 (mSl (mOp fMul (mVar 3) (mC (.int 40))) pNone (pSome (mC (.int 100))))) sNil) k
      [some (.frz ns, false), some (.lst (iL xs), false), some (.int (n : Int), false), some (.lst (prs ps0), true), none, none, none, none, none, none] = k [some (.frz ns, false), some (.lst (iL xs), false), some (.int (n : Int), false), some (.lst (prs ps), true), none, none, none, none, none, none] := by
    cases hb : decide (x1 / 19 % 16 = 3) with
    | true =>
      refine ⟨(List.replicate 40 ps0).flatten.take 100, List.length_take_le _ _, okP_rep hps0 _ _, fun k => ?_⟩
      rw [seq_nx (by simp only [sIf, sSet, sRet, sNil, sNo, sApp, sAug, sAsg, sExpr, sFrz, sPar, sRev, sRetN, frz1, mOp, mVar, mC, mB, mNot, mAnd, mOr, mNeg, mIf, bNot, bAnd, bOr, bYes, mTup, mLst, aNil, aCons, nb, mFn, fLen, fList, fTuple, fMax2, fMin2, mIsT, isT_int_int, isT_int_bl, isT_bool_int, isT_bool_bl, isT_tuple_tup, isT_list_lst, mIsNet, mWires, mComps, mChain, fAdd_int, fSub_int, fMul_r, fMul_l, fDiv_c, fMod_c, fPow_c, fLt_int, fLe_int, fGt_int, fGe_int, fEq_int, fNe_int, fEq_bl, fNe_bl, fAdd_tup, fAdd_lst, fIx_lst, fIx_tup, fIx_frz, mSl, pNone, pSome, fIsN, fIsB, gN, gT, gsN, gTs, gsNil, gsCons, gIx, mCall, mMeth, isNetD, postC, imm, imms, List.getElem?_cons_zero, List.getElem?_cons_succ, List.set_cons_zero, List.set_cons_succ, Option.bind_some, Option.bind_none, Option.map_some, Option.map_none, Option.or_some, Option.or_none, Option.none_or, List.map_cons, List.map_nil, List.all_cons, List.all_nil, Bool.and_true, Bool.true_and, Bool.and_false, Bool.false_and, if_true, if_false, reduceCtorEq, decide_true, decide_false, ne_eq, not_true_eq_false, not_false_eq_true, List.length_cons, List.length_nil, List.getElem?_nil, List.set_nil, reduceIte, Bool.false_eq_true, Int.reduceNeg, Int.reduceLT, Int.reduceLE, Int.reducePow, Nat.reducePow, Nat.reduceLT, Nat.reduceLeDiff, Nat.reduceAdd, Int.reduceToNat, and_self, Nat.zero_le, Bool.not_true, Bool.not_false, Bool.not_eq_true, zero_add_nat, e1, hb, r1, t1]; rfl)]
    | false =>
      refine ⟨ps0, by omega, hps0, fun k => ?_⟩
      rw [seq_nx (by simp only [sIf, sSet, sRet, sNil, sNo, sApp, sAug, sAsg, sExpr, sFrz, sPar, sRev, sRetN, frz1, mOp, mVar, mC, mB, mNot, mAnd, mOr, mNeg, mIf, bNot, bAnd, bOr, bYes, mTup, mLst, aNil, aCons, nb, mFn, fLen, fList, fTuple, fMax2, fMin2, mIsT, isT_int_int, isT_int_bl, isT_bool_int, isT_bool_bl, isT_tuple_tup, isT_list_lst, mIsNet, mWires, mComps, mChain, fAdd_int, fSub_int, fMul_r, fMul_l, fDiv_c, fMod_c, fPow_c, fLt_int, fLe_int, fGt_int, fGe_int, fEq_int, fNe_int, fEq_bl, fNe_bl, fAdd_tup, fAdd_lst, fIx_lst, fIx_tup, fIx_frz, mSl, pNone, pSome, fIsN, fIsB, gN, gT, gsN, gTs, gsNil, gsCons, gIx, mCall, mMeth, isNetD, postC, imm, imms, List.getElem?_cons_zero, List.getElem?_cons_succ, List.set_cons_zero, List.set_cons_succ, Option.bind_some, Option.bind_none, Option.map_some, Option.map_none, Option.or_some, Option.or_none, Option.none_or, List.map_cons, List.map_nil, List.all_cons, List.all_nil, Bool.and_true, Bool.true_and, Bool.and_false, Bool.false_and, if_true, if_false, reduceCtorEq, decide_true, decide_false, ne_eq, not_true_eq_false, not_false_eq_true, List.length_cons, List.length_nil, List.getElem?_nil, List.set_nil, reduceIte, Bool.false_eq_true, Int.reduceNeg, Int.reduceLT, Int.reduceLE, Int.reducePow, Nat.reducePow, Nat.reduceLT, Nat.reduceLeDiff, Nat.reduceAdd, Int.reduceToNat, and_self, Nat.zero_le, Bool.not_true, Bool.not_false, Bool.not_eq_true, zero_add_nat, e1, hb]; rfl)]
  obtain ⟨qs, hql, hqs, e2⟩ := second_ok hx hxl (show (1 : Int) ≤ n by omega) (by omega) hps (by omega)
  have iq := imms_prs qs
  obtain ⟨flp, epl⟩ := plain_ok (n := n) hn12
  have lp := fun (r : List Int) (hr : r.length = n) => lrun_ok (ps := ps) (c := r) (by rw [hr]; exact hps)
  have lq := fun (r : List Int) (hr : r.length = n) => lrun_ok (ps := qs) (c := r) (by rw [hr]; exact hqs)
  have rp := fun (r : List Int) (hr : r.length = n) => nrun_ok (w := (n : Int)) (ps := ps) (c := r) (by rw [hr]; exact hps)
  have rq := fun (r : List Int) (hr : r.length = n) => nrun_ok (w := (n : Int)) (ps := qs) (c := r) (by rw [hr]; exact hqs)
  have net1 := fun {a b : Fl} => fNet_ok (w := (n : Int)) (a := a) (b := b) (by omega) hps (by omega)
  have net2 := fun {a b : Fl} => fNet_ok (w := (n : Int)) (a := a) (b := b) (by omega) hqs (by omega)
  have pa1 := parted_ok hn12 hps hqs
  have pa2 := parted_ok hn12 hqs hps
  have pa3 := parted_ok hn12 hps hps
  rw [firstD_sym] at pa2
  rw [firstD_self] at pa3
  have fne := fun {a b : Fl} => fNe_first ps qs (plainL n) (a := a) (b := b)
  have hcase := firstD_cases ps qs (plainL n)
  obtain ⟨o', hdu⟩ := du_loop (FL := f__law_run) (A0 := some (.frz ns, false)) (A1 := some (.lst (iL xs), false)) (A2 := some (.int (n : Int), false)) (A7 := none) (A8 := none) (A9 := none) lp lq (plainL n).reverse [] none (fun r hr => plainL_mem n r (List.mem_reverse.mp hr))
  rw [List.reverse_reverse, List.append_nil] at hdu
  have zo := zero_one hps hqs
  -- the three rows
  have rows3 : ∀ k : Nat, k < 3 → ∃ r : List Int, r.length = n ∧ f__law_row_k26 [.lst (iL xs), .int (18 + 2 * (k : Int)), .int (n : Int)] = some (.tup (iL r), false) := fun k hk => by
    obtain ⟨r, h1, h2⟩ := rowB_ok (F := f__law_row_k26) rfl (xs := xs) (place := 18 + 2 * (k : Int)) (w := (n : Int)) hx (by omega) (by omega) (by omega) (by omega)
    exact ⟨r, by omega, h2⟩
  have hnr : firstD ps qs [] = .non := rfl
  rw [hnr] at hdu
  have hrv : (rws (plainL n)).reverse = rws (plainL n).reverse := by simp
  have himm : imm (firstD ps qs (plainL n)) = true := by
    rcases hcase with ⟨h, _⟩ | ⟨r, _, h, _⟩
    · rw [h]; rfl
    · rw [h]; exact imms_iL r
  unfold f_law
  refine rF ?_
  unfold b_law
  unfold dubody at hdu
  generalize hdd : firstD ps qs (plainL n) = due at *
  have hdue : (due = .non ∧ ∀ r : List Int, r.length = n → runL ps r = runL qs r) ∨ ∃ r : List Int, r.length = n ∧ due = .tup (iL r) ∧ ¬ runL ps r = runL qs r := by
    rcases hcase with ⟨h, g⟩ | ⟨r, hr, h, g⟩
    · exact .inl ⟨h, zo g⟩
    · exact .inr ⟨r, plainL_mem n r hr, h, g⟩
  have hrob : ∀ k : Nat, k < 3 → ∀ (A3 A4 A6 : Option (D × Bool)), ∃ o6, robody f__law_row_k26 f_Network_run [some (.frz ns, false), some (.lst (iL xs), false), some (.int (n : Int), false), A3, A4, some (due, false), A6, some (.net n (.tup (prs ps)), false), some (.net n (.tup (prs qs)), false), some (.int (k : Int), false)] = some (.nx [some (.frz ns, false), some (.lst (iL xs), false), some (.int (n : Int), false), A3, A4, some (due, false), o6, some (.net n (.tup (prs ps)), false), some (.net n (.tup (prs qs)), false), some (.int (k : Int), false)]) := fun k hk A3 A4 A6 => by
    obtain ⟨r, h1, h2⟩ := rows3 k hk
    refine ⟨_, ro_step h2 (rp r h1) (rq r h1) ⟨by omega, by omega⟩ ?_⟩
    rcases hdue with ⟨h, g⟩ | ⟨q, _, h, _⟩
    · exact .inl ⟨h, g r h1⟩
    · exact .inr ⟨q, h⟩
  have loop := forGo0 (g := gN 9) (m := robody f__law_row_k26 f_Network_run)
    (fun j ρ => ∃ a6 a9 : Option (D × Bool), ρ = [some (.frz ns, false), some (.lst (iL xs), false), some (.int (n : Int), false), some (.lst (prs ps), true), some (.lst (prs qs), true), some (due, false), a6, some (.net n (.tup (prs ps)), false), some (.net n (.tup (prs qs)), false), a9])
    (ds := rngD 0 3) (ρ := [some (.frz ns, false), some (.lst (iL xs), false), some (.int (n : Int), false), some (.lst (prs ps), true), some (.lst (prs qs), true), some (due, false), o', some (.net n (.tup (prs ps)), false), some (.net n (.tup (prs qs)), false), none]) ⟨o', none, rfl⟩ ?_
  · obtain ⟨ρ', h1, a6, a9, rfl⟩ := loop
    unfold robody at h1
    generalize f__law_numbers = F1 at en ⊢
    generalize f__law_pairs_k26 = F2 at ep ⊢
    generalize f__law_second = F3 at e2 ⊢
    generalize f__law_plain = F4 at epl ⊢
    generalize f__law_run = F5 at hdu ⊢
    generalize f_parted = F6 at pa1 pa2 pa3 ⊢
    generalize f__law_row_k26 = F7 at h1 ⊢
    generalize f_Network_run = F8 at h1 rp rq ⊢
    simp only [List.map_cons, List.map_nil, List.length_cons, List.length_nil, Nat.reduceAdd, Nat.reduceSub, List.replicate, List.cons_append, List.nil_append]
    rw [seq_nx (by simp only [sIf, sSet, sRet, sNil, sNo, sApp, sAug, sAsg, sExpr, sFrz, sPar, sRev, sRetN, frz1, mOp, mVar, mC, mB, mNot, mAnd, mOr, mNeg, mIf, bNot, bAnd, bOr, bYes, mTup, mLst, aNil, aCons, nb, mFn, fLen, fList, fTuple, fMax2, fMin2, mIsT, isT_int_int, isT_int_bl, isT_bool_int, isT_bool_bl, isT_tuple_tup, isT_list_lst, mIsNet, mWires, mComps, mChain, fAdd_int, fSub_int, fMul_r, fMul_l, fDiv_c, fMod_c, fPow_c, fLt_int, fLe_int, fGt_int, fGe_int, fEq_int, fNe_int, fEq_bl, fNe_bl, fAdd_tup, fAdd_lst, fIx_lst, fIx_tup, fIx_frz, mSl, pNone, pSome, fIsN, fIsB, gN, gT, gsN, gTs, gsNil, gsCons, gIx, mCall, mMeth, isNetD, postC, imm, imms, List.getElem?_cons_zero, List.getElem?_cons_succ, List.set_cons_zero, List.set_cons_succ, Option.bind_some, Option.bind_none, Option.map_some, Option.map_none, Option.or_some, Option.or_none, Option.none_or, List.map_cons, List.map_nil, List.all_cons, List.all_nil, Bool.and_true, Bool.true_and, Bool.and_false, Bool.false_and, if_true, if_false, reduceCtorEq, decide_true, decide_false, ne_eq, not_true_eq_false, not_false_eq_true, List.length_cons, List.length_nil, List.getElem?_nil, List.set_nil, reduceIte, Bool.false_eq_true, Int.reduceNeg, Int.reduceLT, Int.reduceLE, Int.reducePow, Nat.reducePow, Nat.reduceLT, Nat.reduceLeDiff, Nat.reduceAdd, Int.reduceToNat, and_self, Nat.zero_le, Bool.not_true, Bool.not_false, Bool.not_eq_true, zero_add_nat, en]; rfl)]
    rw [hwires]
    rw [seq_nx (by simp only [sIf, sSet, sRet, sNil, sNo, sApp, sAug, sAsg, sExpr, sFrz, sPar, sRev, sRetN, frz1, mOp, mVar, mC, mB, mNot, mAnd, mOr, mNeg, mIf, bNot, bAnd, bOr, bYes, mTup, mLst, aNil, aCons, nb, mFn, fLen, fList, fTuple, fMax2, fMin2, mIsT, isT_int_int, isT_int_bl, isT_bool_int, isT_bool_bl, isT_tuple_tup, isT_list_lst, mIsNet, mWires, mComps, mChain, fAdd_int, fSub_int, fMul_r, fMul_l, fDiv_c, fMod_c, fPow_c, fLt_int, fLe_int, fGt_int, fGe_int, fEq_int, fNe_int, fEq_bl, fNe_bl, fAdd_tup, fAdd_lst, fIx_lst, fIx_tup, fIx_frz, mSl, pNone, pSome, fIsN, fIsB, gN, gT, gsN, gTs, gsNil, gsCons, gIx, mCall, mMeth, isNetD, postC, imm, imms, List.getElem?_cons_zero, List.getElem?_cons_succ, List.set_cons_zero, List.set_cons_succ, Option.bind_some, Option.bind_none, Option.map_some, Option.map_none, Option.or_some, Option.or_none, Option.none_or, List.map_cons, List.map_nil, List.all_cons, List.all_nil, Bool.and_true, Bool.true_and, Bool.and_false, Bool.false_and, if_true, if_false, reduceCtorEq, decide_true, decide_false, ne_eq, not_true_eq_false, not_false_eq_true, List.length_cons, List.length_nil, List.getElem?_nil, List.set_nil, reduceIte, Bool.false_eq_true, Int.reduceNeg, Int.reduceLT, Int.reduceLE, Int.reducePow, Nat.reducePow, Nat.reduceLT, Nat.reduceLeDiff, Nat.reduceAdd, Int.reduceToNat, and_self, Nat.zero_le, Bool.not_true, Bool.not_false, Bool.not_eq_true, zero_add_nat, e8, ep]; rfl)]
    rw [hmany]
    rw [seq_nx (by simp only [sIf, sSet, sRet, sNil, sNo, sApp, sAug, sAsg, sExpr, sFrz, sPar, sRev, sRetN, frz1, mOp, mVar, mC, mB, mNot, mAnd, mOr, mNeg, mIf, bNot, bAnd, bOr, bYes, mTup, mLst, aNil, aCons, nb, mFn, fLen, fList, fTuple, fMax2, fMin2, mIsT, isT_int_int, isT_int_bl, isT_bool_int, isT_bool_bl, isT_tuple_tup, isT_list_lst, mIsNet, mWires, mComps, mChain, fAdd_int, fSub_int, fMul_r, fMul_l, fDiv_c, fMod_c, fPow_c, fLt_int, fLe_int, fGt_int, fGe_int, fEq_int, fNe_int, fEq_bl, fNe_bl, fAdd_tup, fAdd_lst, fIx_lst, fIx_tup, fIx_frz, mSl, pNone, pSome, fIsN, fIsB, gN, gT, gsN, gTs, gsNil, gsCons, gIx, mCall, mMeth, isNetD, postC, imm, imms, List.getElem?_cons_zero, List.getElem?_cons_succ, List.set_cons_zero, List.set_cons_succ, Option.bind_some, Option.bind_none, Option.map_some, Option.map_none, Option.or_some, Option.or_none, Option.none_or, List.map_cons, List.map_nil, List.all_cons, List.all_nil, Bool.and_true, Bool.true_and, Bool.and_false, Bool.false_and, if_true, if_false, reduceCtorEq, decide_true, decide_false, ne_eq, not_true_eq_false, not_false_eq_true, List.length_cons, List.length_nil, List.getElem?_nil, List.set_nil, reduceIte, Bool.false_eq_true, Int.reduceNeg, Int.reduceLT, Int.reduceLE, Int.reducePow, Nat.reducePow, Nat.reduceLT, Nat.reduceLeDiff, Nat.reduceAdd, Int.reduceToNat, and_self, Nat.zero_le, Bool.not_true, Bool.not_false, Bool.not_eq_true, zero_add_nat, e2, iq]; rfl)]
    rw [seq_nx (by simp only [sIf, sSet, sRet, sNil, sNo, sApp, sAug, sAsg, sExpr, sFrz, sPar, sRev, sRetN, frz1, mOp, mVar, mC, mB, mNot, mAnd, mOr, mNeg, mIf, bNot, bAnd, bOr, bYes, mTup, mLst, aNil, aCons, nb, mFn, fLen, fList, fTuple, fMax2, fMin2, mIsT, isT_int_int, isT_int_bl, isT_bool_int, isT_bool_bl, isT_tuple_tup, isT_list_lst, mIsNet, mWires, mComps, mChain, fAdd_int, fSub_int, fMul_r, fMul_l, fDiv_c, fMod_c, fPow_c, fLt_int, fLe_int, fGt_int, fGe_int, fEq_int, fNe_int, fEq_bl, fNe_bl, fAdd_tup, fAdd_lst, fIx_lst, fIx_tup, fIx_frz, mSl, pNone, pSome, fIsN, fIsB, gN, gT, gsN, gTs, gsNil, gsCons, gIx, mCall, mMeth, isNetD, postC, imm, imms, List.getElem?_cons_zero, List.getElem?_cons_succ, List.set_cons_zero, List.set_cons_succ, Option.bind_some, Option.bind_none, Option.map_some, Option.map_none, Option.or_some, Option.or_none, Option.none_or, List.map_cons, List.map_nil, List.all_cons, List.all_nil, Bool.and_true, Bool.true_and, Bool.and_false, Bool.false_and, if_true, if_false, reduceCtorEq, decide_true, decide_false, ne_eq, not_true_eq_false, not_false_eq_true, List.length_cons, List.length_nil, List.getElem?_nil, List.set_nil, reduceIte, Bool.false_eq_true, Int.reduceNeg, Int.reduceLT, Int.reduceLE, Int.reducePow, Nat.reducePow, Nat.reduceLT, Nat.reduceLeDiff, Nat.reduceAdd, Int.reduceToNat, and_self, Nat.zero_le, Bool.not_true, Bool.not_false, Bool.not_eq_true, zero_add_nat]; rfl)]
    have hi : iRv false (mCall F4 (aCons (mVar 2) aNil)) [some (.frz ns, false), some (.lst (iL xs), false), some (.int (n : Int), false), some (.lst (prs ps), true), some (.lst (prs qs), true), some (.non, false), none, none, none, none] = some (rws (plainL n).reverse) := by rw [← hrv]; exact rv_step epl
    rw [seq_nx ((for_ok hi).trans hdu)]
    rw [seq_nx (by simp only [sIf, sSet, sRet, sNil, sNo, sApp, sAug, sAsg, sExpr, sFrz, sPar, sRev, sRetN, frz1, mOp, mVar, mC, mB, mNot, mAnd, mOr, mNeg, mIf, bNot, bAnd, bOr, bYes, mTup, mLst, aNil, aCons, nb, mFn, fLen, fList, fTuple, fMax2, fMin2, mIsT, isT_int_int, isT_int_bl, isT_bool_int, isT_bool_bl, isT_tuple_tup, isT_list_lst, mIsNet, mWires, mComps, mChain, fAdd_int, fSub_int, fMul_r, fMul_l, fDiv_c, fMod_c, fPow_c, fLt_int, fLe_int, fGt_int, fGe_int, fEq_int, fNe_int, fEq_bl, fNe_bl, fAdd_tup, fAdd_lst, fIx_lst, fIx_tup, fIx_frz, mSl, pNone, pSome, fIsN, fIsB, gN, gT, gsN, gTs, gsNil, gsCons, gIx, mCall, mMeth, isNetD, postC, imm, imms, List.getElem?_cons_zero, List.getElem?_cons_succ, List.set_cons_zero, List.set_cons_succ, Option.bind_some, Option.bind_none, Option.map_some, Option.map_none, Option.or_some, Option.or_none, Option.none_or, List.map_cons, List.map_nil, List.all_cons, List.all_nil, Bool.and_true, Bool.true_and, Bool.and_false, Bool.false_and, if_true, if_false, reduceCtorEq, decide_true, decide_false, ne_eq, not_true_eq_false, not_false_eq_true, List.length_cons, List.length_nil, List.getElem?_nil, List.set_nil, reduceIte, Bool.false_eq_true, Int.reduceNeg, Int.reduceLT, Int.reduceLE, Int.reducePow, Nat.reducePow, Nat.reduceLT, Nat.reduceLeDiff, Nat.reduceAdd, Int.reduceToNat, and_self, Nat.zero_le, Bool.not_true, Bool.not_false, Bool.not_eq_true, zero_add_nat, net1]; rfl)]
    rw [seq_nx (by simp only [sIf, sSet, sRet, sNil, sNo, sApp, sAug, sAsg, sExpr, sFrz, sPar, sRev, sRetN, frz1, mOp, mVar, mC, mB, mNot, mAnd, mOr, mNeg, mIf, bNot, bAnd, bOr, bYes, mTup, mLst, aNil, aCons, nb, mFn, fLen, fList, fTuple, fMax2, fMin2, mIsT, isT_int_int, isT_int_bl, isT_bool_int, isT_bool_bl, isT_tuple_tup, isT_list_lst, mIsNet, mWires, mComps, mChain, fAdd_int, fSub_int, fMul_r, fMul_l, fDiv_c, fMod_c, fPow_c, fLt_int, fLe_int, fGt_int, fGe_int, fEq_int, fNe_int, fEq_bl, fNe_bl, fAdd_tup, fAdd_lst, fIx_lst, fIx_tup, fIx_frz, mSl, pNone, pSome, fIsN, fIsB, gN, gT, gsN, gTs, gsNil, gsCons, gIx, mCall, mMeth, isNetD, postC, imm, imms, List.getElem?_cons_zero, List.getElem?_cons_succ, List.set_cons_zero, List.set_cons_succ, Option.bind_some, Option.bind_none, Option.map_some, Option.map_none, Option.or_some, Option.or_none, Option.none_or, List.map_cons, List.map_nil, List.all_cons, List.all_nil, Bool.and_true, Bool.true_and, Bool.and_false, Bool.false_and, if_true, if_false, reduceCtorEq, decide_true, decide_false, ne_eq, not_true_eq_false, not_false_eq_true, List.length_cons, List.length_nil, List.getElem?_nil, List.set_nil, reduceIte, Bool.false_eq_true, Int.reduceNeg, Int.reduceLT, Int.reduceLE, Int.reducePow, Nat.reducePow, Nat.reduceLT, Nat.reduceLeDiff, Nat.reduceAdd, Int.reduceToNat, and_self, Nat.zero_le, Bool.not_true, Bool.not_false, Bool.not_eq_true, zero_add_nat, net2]; rfl)]
    have fnn : fIsN true (.non, .pure) (.non, .pure) = some (.bl false, .pure) := rfl
    rw [seq_nx (pa_step pa1 pa2 pa3 fne)]
    have hr3 : iR1 (aCons (mC (.int 3)) aNil) [some (.frz ns, false), some (.lst (iL xs), false), some (.int (n : Int), false), some (.lst (prs ps), true), some (.lst (prs qs), true), some (due, false), o', some (.net n (.tup (prs ps)), false), some (.net n (.tup (prs qs)), false), none] = some (rngD 0 3) := iR1_ok (a := .pure) (by simp only [sIf, sSet, sRet, sNil, sNo, sApp, sAug, sAsg, sExpr, sFrz, sPar, sRev, sRetN, frz1, mOp, mVar, mC, mB, mNot, mAnd, mOr, mNeg, mIf, bNot, bAnd, bOr, bYes, mTup, mLst, aNil, aCons, nb, mFn, fLen, fList, fTuple, fMax2, fMin2, mIsT, isT_int_int, isT_int_bl, isT_bool_int, isT_bool_bl, isT_tuple_tup, isT_list_lst, mIsNet, mWires, mComps, mChain, fAdd_int, fSub_int, fMul_r, fMul_l, fDiv_c, fMod_c, fPow_c, fLt_int, fLe_int, fGt_int, fGe_int, fEq_int, fNe_int, fEq_bl, fNe_bl, fAdd_tup, fAdd_lst, fIx_lst, fIx_tup, fIx_frz, mSl, pNone, pSome, fIsN, fIsB, gN, gT, gsN, gTs, gsNil, gsCons, gIx, mCall, mMeth, isNetD, postC, imm, imms, List.getElem?_cons_zero, List.getElem?_cons_succ, List.set_cons_zero, List.set_cons_succ, Option.bind_some, Option.bind_none, Option.map_some, Option.map_none, Option.or_some, Option.or_none, Option.none_or, List.map_cons, List.map_nil, List.all_cons, List.all_nil, Bool.and_true, Bool.true_and, Bool.and_false, Bool.false_and, if_true, if_false, reduceCtorEq, decide_true, decide_false, ne_eq, not_true_eq_false, not_false_eq_true, List.length_cons, List.length_nil, List.getElem?_nil, List.set_nil, reduceIte, Bool.false_eq_true, Int.reduceNeg, Int.reduceLT, Int.reduceLE, Int.reducePow, Nat.reducePow, Nat.reduceLT, Nat.reduceLeDiff, Nat.reduceAdd, Int.reduceToNat, and_self, Nat.zero_le, Bool.not_true, Bool.not_false, Bool.not_eq_true, zero_add_nat]; rfl) (by omega)
    rw [seq_nx ((for_ok hr3).trans h1)]
    refine fin_step ?_
    rcases hdue with ⟨h, _⟩ | ⟨q, hq, h, hne⟩
    · exact .inl h
    · exact .inr ⟨q, _, _, h, rp q hq, rq q hq, hne⟩
  · rintro j d ρ hd ⟨a6, a9, rfl⟩
    obtain ⟨hj, rfl⟩ := rng_get hd
    rw [Int.zero_add]
    obtain ⟨o6, hb⟩ := hrob j hj (some (.lst (prs ps), true)) (some (.lst (prs qs), true)) a6
    exact ⟨_, _, rfl, hb, _, _, rfl⟩
end Lw

set_option maxHeartbeats 4000000
namespace Lw
open PySem PySem.Spec PyProof.Rows L2 Dt
def topS (i : Nat) : Stmt := PySem.Challenge.pw_neededrows_k26_parted_networks.main.body.getD i (.Pass ⟨0, 0, 0, 0⟩)
abbrev s__law_numbers : Stmt := topS 12
def n__law_numbers : List Str := ["script", "count", "rest", "by_digits", "numbers", "k", "cell"]
theorem sc__law_numbers : FnScope n__law_numbers ["script", "count"] (defScope s__law_numbers) := ⟨rfl, rfl, rfl, by decide +kernel, rfl, by decide +kernel, by decide +kernel⟩
abbrev s__law_pairs : Stmt := topS 13
def n__law_pairs : List Str := ["numbers", "place", "wires", "many", "standard", "pairs", "k", "number", "one", "two"]
theorem sc__law_pairs : FnScope n__law_pairs ["numbers", "place", "wires", "many", "standard"] (defScope s__law_pairs) := ⟨rfl, rfl, rfl, by decide +kernel, rfl, by decide +kernel, by decide +kernel⟩
abbrev s__law_second : Stmt := topS 18
def n__law_second : List Str := ["numbers", "wires", "pairs", "choice", "place"]
theorem sc__law_second : FnScope n__law_second ["numbers", "wires", "pairs"] (defScope s__law_second) := ⟨rfl, rfl, rfl, by decide +kernel, rfl, by decide +kernel, by decide +kernel⟩
abbrev s__check_comparer : Stmt := topS 5
def n__check_comparer : List Str := ["wires", "i", "j"]
theorem sc__check_comparer : FnScope n__check_comparer ["wires", "i", "j"] (defScope s__check_comparer) := ⟨rfl, rfl, rfl, by decide +kernel, rfl, by decide +kernel, by decide +kernel⟩
abbrev s_Network___init__ : Stmt := inClass (topS 6) 0
def n_Network___init__ : List Str := ["self", "wires", "comparers", "pairs", "i", "j"]
theorem sc_Network___init__ : FnScope n_Network___init__ ["self", "wires", "comparers"] (defScope s_Network___init__) := ⟨rfl, rfl, rfl, by decide +kernel, rfl, by decide +kernel, by decide +kernel⟩
abbrev s__law_plain : Stmt := topS 15
def n__law_plain : List Str := ["wires", "rows", "k", "longer", "row"]
theorem sc__law_plain : FnScope n__law_plain ["wires"] (defScope s__law_plain) := ⟨rfl, rfl, rfl, by decide +kernel, rfl, by decide +kernel, by decide +kernel⟩
abbrev s__law_row : Stmt := topS 16
def n__law_row : List Str := ["numbers", "place", "wires", "number", "cells", "k", "factor", "cell"]
theorem sc__law_row : FnScope n__law_row ["numbers", "place", "wires"] (defScope s__law_row) := ⟨rfl, rfl, rfl, by decide +kernel, rfl, by decide +kernel, by decide +kernel⟩
abbrev s__law_run : Stmt := topS 14
def n__law_run : List Str := ["pairs", "row", "cells", "pair", "low"]
theorem sc__law_run : FnScope n__law_run ["pairs", "row"] (defScope s__law_run) := ⟨rfl, rfl, rfl, by decide +kernel, rfl, by decide +kernel, by decide +kernel⟩
abbrev s_plain_rows : Stmt := topS 8
def n_plain_rows : List Str := ["wires", "found", "_", "row", "number"]
theorem sc_plain_rows : FnScope n_plain_rows ["wires"] (defScope s_plain_rows) := ⟨rfl, rfl, rfl, by decide +kernel, rfl, by decide +kernel, by decide +kernel⟩
abbrev s_Network_run : Stmt := inClass (topS 6) 3
def n_Network_run : List Str := ["self", "row", "numbers", "i", "j"]
theorem sc_Network_run : FnScope n_Network_run ["self", "row"] (defScope s_Network_run) := ⟨rfl, rfl, rfl, by decide +kernel, rfl, by decide +kernel, by decide +kernel⟩
abbrev s_parted : Stmt := topS 10
def n_parted : List Str := ["network", "other", "row"]
theorem sc_parted : FnScope n_parted ["network", "other"] (defScope s_parted) := ⟨rfl, rfl, rfl, by decide +kernel, rfl, by decide +kernel, by decide +kernel⟩
abbrev s_law : Stmt := topS 19
def n_law : List Str := ["script", "numbers", "wires", "first", "second", "due", "row", "one", "two", "k"]
theorem sc_law : FnScope n_law ["script"] (defScope s_law) := ⟨rfl, rfl, rfl, by decide +kernel, rfl, by decide +kernel, by decide +kernel⟩
structure Tx (K : PySem.W.Frag) (mg : Str → Option Value) where
  C : Addr
  z_isinstance : mg "isinstance" = none
  z_len : mg "len" = none
  z_list : mg "list" = none
  z_max : mg "max" = none
  z_min : mg "min" = none
  z_range : mg "range" = none
  z_reversed : mg "reversed" = none
  z_tuple : mg "tuple" = none
  N : NetC K C
  mgN : mg "Network" = some (.ref C)
  A__law_numbers : DefAt K mg "_law_numbers" s__law_numbers ["script", "count"]
  A__law_pairs : DefAt K mg "_law_pairs" s__law_pairs ["numbers", "place", "wires", "many", "standard"]
  A__law_second : DefAt K mg "_law_second" s__law_second ["numbers", "wires", "pairs"]
  A__check_comparer : DefAt K mg "_check_comparer" s__check_comparer ["wires", "i", "j"]
  A_Network___init__ : MethAt K C "__init__" "Network.__init__" s_Network___init__ ["self", "wires", "comparers"]
  A__law_plain : DefAt K mg "_law_plain" s__law_plain ["wires"]
  A__law_row : DefAt K mg "_law_row" s__law_row ["numbers", "place", "wires"]
  A__law_run : DefAt K mg "_law_run" s__law_run ["pairs", "row"]
  A_plain_rows : DefAt K mg "plain_rows" s_plain_rows ["wires"]
  A_Network_run : MethAt K C "run" "Network.run" s_Network_run ["self", "row"]
  A_parted : DefAt K mg "parted" s_parted ["network", "other"]
  A_law : DefAt K mg "law" s_law ["script"]
  M : Mk K C A_Network___init__.f
section
variable {P : Program} {w : World} {K : PySem.W.Frag} {mg : Str → Option Value} {base : Heap}
theorem ok__law_numbers (T : Tx K mg) : FnOk P w K mg base CX0 1 T.A__law_numbers.f T.A__law_numbers.fd ["script", "count"] (spD ⟨T.C, K⟩ 2 f__law_numbers) := by
  have ND : n__law_numbers.Nodup := sc__law_numbers.nd
  exact fn_ok (k := 0) T.A__law_numbers.F sc__law_numbers fun cdv A outer s H E hr => ⟨_, (dss_cons (ds_set 2 ND de_int) (dss_cons (ds_if (dt_gt (de_len (K := K) rfl rfl (by rfl) T.z_len (da_cons (de_var 0) da_nil)) de_int) (dss_one (ds_set 2 ND (de_ix (K := K) rfl rfl (de_var 0) de_int))) dss_nil) (dss_cons (ds_set 3 ND (de_ge (de_var 2) (de_pow de_int de_int))) (dss_cons (ds_set 4 ND (de_lst da_nil)) (dss_cons (ds_for PassesOwn.never rfl (di_r1 (w := false) (by rfl) T.z_range (da_cons (de_var 1) da_nil)) (dgs_n 5 ND) (dss_one (ds_if (dw_and (dt_val (de_var 3)) (dw_and1 (dt_gt (de_var 2) de_int))).t (dss_cons (ds_append 4 (K := K) rfl (de_mod (de_var 2) de_int)) (dss_one (ds_set 2 ND (de_div (de_var 2) de_int)))) (dss_cons (ds_set 6 ND de_int) (dss_cons (ds_if (dt_gt (de_len (K := K) rfl rfl (by rfl) T.z_len (da_cons (de_var 0) da_nil)) de_int) (dss_one (ds_set 6 ND (de_add (K := K) rfl (de_ix (K := K) rfl rfl (de_var 0) (de_mod (de_var 5) (de_len (K := K) rfl rfl (by rfl) T.z_len (da_cons (de_var 0) da_nil)))) (de_mul de_int (de_var 5))))) dss_nil) (dss_one (ds_append 4 (K := K) rfl (de_mod (de_mod (de_mul (de_mod (de_mul (de_var 6) de_int) de_int) de_int) de_int) de_int)))))))) (dss_one (ds_ret (de_var 4))))))))⟩
theorem ok__law_pairs (T : Tx K mg) : FnOk P w K mg base CX0 1 T.A__law_pairs.f T.A__law_pairs.fd ["numbers", "place", "wires", "many", "standard"] (spD ⟨T.C, K⟩ 5 f__law_pairs_k26) := by
  have ND : n__law_pairs.Nodup := sc__law_pairs.nd
  exact fn_ok (k := 0) T.A__law_pairs.F sc__law_pairs fun cdv A outer s H E hr => ⟨_, (dss_cons (ds_set 5 ND (de_lst da_nil)) (dss_cons (ds_if (dt_eq (K := K) rfl hr (de_var 2) de_int) (dss_one (ds_ret (de_var 5))) dss_nil) (dss_cons (ds_for PassesOwn.never rfl (di_r1 (w := false) (by rfl) T.z_range (da_cons (de_mod (de_ix (K := K) rfl rfl (de_var 0) (de_var 1)) (de_add (K := K) rfl (de_var 3) de_int)) da_nil)) (dgs_n 6 ND) (dss_cons (ds_set 7 ND (de_div (de_ix (K := K) rfl rfl (de_var 0) (de_add (K := K) rfl (de_add (K := K) rfl (de_var 1) de_int) (de_div (de_var 6) de_int))) (de_ix (K := K) rfl rfl (de_lst (da_cons de_int (da_cons de_int (da_cons de_int da_nil)))) (de_mod (de_var 6) de_int)))) (dss_cons (ds_set 8 ND (de_mod (de_var 7) (de_var 2))) (dss_cons (ds_set 9 ND (de_mod (de_div (de_var 7) (de_var 2)) (de_sub (de_var 2) de_int))) (dss_cons (ds_if (dt_ge (de_var 9) (de_var 8)) (dss_one (ds_set 9 ND (de_add (K := K) rfl (de_var 9) de_int))) dss_nil) (dss_one (ds_if (dw_and (dt_val (de_var 4)) (dw_and1 (dt_gt (de_var 8) (de_var 9)))).t (dss_one (ds_append 5 (K := K) rfl (de_tup (da_cons (de_var 9) (da_cons (de_var 8) da_nil))))) (dss_one (ds_append 5 (K := K) rfl (de_tup (da_cons (de_var 8) (da_cons (de_var 9) da_nil)))))))))))) (dss_one (ds_ret (de_var 5))))))⟩
theorem ok__law_second (T : Tx K mg) : FnOk P w K mg base CX0 2 T.A__law_second.f T.A__law_second.fd ["numbers", "wires", "pairs"] (spD ⟨T.C, K⟩ 3 f__law_second) := by
  have ND : n__law_second.Nodup := sc__law_second.nd
  exact fn_ok (k := 1) T.A__law_second.F sc__law_second fun cdv A outer s H E hr => ⟨_, (dss_cons (ds_set 3 ND (de_mod (de_ix (K := K) rfl rfl (de_var 0) de_int) de_int)) (dss_cons (ds_if (dw_or (dt_eq (K := K) rfl hr (de_var 3) de_int) (dw_or1 (dt_eq (K := K) rfl hr (de_len (K := K) rfl rfl (by rfl) T.z_len (da_cons (de_var 2) da_nil)) de_int))).t (dss_one (ds_ret (de_call (ok__law_pairs T) (hr.mono (by decide)) T.A__law_pairs.m T.A__law_pairs.F.kp T.A__law_pairs.b (da_cons (de_var 0) (da_cons de_int (da_cons (de_var 1) (da_cons de_int (da_cons de_bl da_nil))))) (aCons_len (aCons_len (aCons_len (aCons_len (aCons_len aNil_len)))))))) dss_nil) (dss_cons (ds_set 4 ND (de_mod (de_div (de_ix (K := K) rfl rfl (de_var 0) de_int) de_int) (de_len (K := K) rfl rfl (by rfl) T.z_len (da_cons (de_var 2) da_nil)))) (dss_cons (ds_if (dt_eq (K := K) rfl hr (de_var 3) de_int) (dss_one (ds_ret (de_add (K := K) rfl (de_sl (K := K) rfl (de_var 2) do_none (do_some (de_var 4))) (de_sl (K := K) rfl (de_var 2) (do_some (de_add (K := K) rfl (de_var 4) de_int)) do_none)))) dss_nil) (dss_cons (ds_if (dt_eq (K := K) rfl hr (de_var 3) de_int) (dss_one (ds_ret (de_add (K := K) rfl (de_add (K := K) rfl (de_sl (K := K) rfl (de_var 2) do_none (do_some (de_var 4))) (de_lst (da_cons (de_ix (K := K) rfl rfl (de_var 2) (de_var 4)) da_nil))) (de_sl (K := K) rfl (de_var 2) (do_some (de_var 4)) do_none)))) dss_nil) (dss_cons (ds_if (dt_eq (K := K) rfl hr (de_var 3) de_int) (dss_one (ds_ret (de_add (K := K) rfl (de_add (K := K) rfl (de_add (K := K) rfl (de_sl (K := K) rfl (de_var 2) do_none (do_some (de_var 4))) (de_sl (K := K) rfl (de_var 2) (do_some (de_add (K := K) rfl (de_var 4) de_int)) (do_some (de_add (K := K) rfl (de_var 4) de_int)))) (de_lst (da_cons (de_ix (K := K) rfl rfl (de_var 2) (de_var 4)) da_nil))) (de_sl (K := K) rfl (de_var 2) (do_some (de_add (K := K) rfl (de_var 4) de_int)) do_none)))) dss_nil) (dss_cons (ds_if (dt_eq (K := K) rfl hr (de_var 3) de_int) (dss_one (ds_ret (de_add (K := K) rfl (de_add (K := K) rfl (de_sl (K := K) rfl (de_var 2) do_none (do_some (de_var 4))) (de_lst (da_cons (de_tup (da_cons (de_ix (K := K) rfl rfl (de_ix (K := K) rfl rfl (de_var 2) (de_var 4)) de_int) (da_cons (de_ix (K := K) rfl rfl (de_ix (K := K) rfl rfl (de_var 2) (de_var 4)) de_int) da_nil))) da_nil))) (de_sl (K := K) rfl (de_var 2) (do_some (de_add (K := K) rfl (de_var 4) de_int)) do_none)))) dss_nil) (dss_one (ds_ret (de_list (K := K) rfl rfl (by rfl) T.z_list (da_cons (de_var 2) da_nil)))))))))))⟩
theorem ok__check_comparer (T : Tx K mg) : FnOk P w K mg base CX0 1 T.A__check_comparer.f T.A__check_comparer.fd ["wires", "i", "j"] (spD ⟨T.C, K⟩ 3 f__check_comparer) := by
  have ND : n__check_comparer.Nodup := sc__check_comparer.nd
  exact fn_ok (k := 0) T.A__check_comparer.F sc__check_comparer fun cdv A outer s H E hr => ⟨_, (dss_cons (ds_if (dw_or (dt_not (dt_leLt de_int (de_var 1) (de_var 0))) (dw_or1 (dt_not (dt_leLt de_int (de_var 2) (de_var 0))))).t (dss_one ds_never) dss_nil) (dss_one (ds_if (dt_eq (K := K) rfl hr (de_var 1) (de_var 2)) (dss_one ds_never) dss_nil)))⟩
theorem ok_Network___init__ (T : Tx K mg) : FnOk P w K mg base CX0 2 T.A_Network___init__.f T.A_Network___init__.fd ["self", "wires", "comparers"] (spInit ⟨T.C, K⟩) := by
  have ND : n_Network___init__.Nodup := sc_Network___init__.nd
  exact init_ok (C := ⟨T.C, K⟩) (k := 1) (m1 := b1_init) (m2 := b2_init) (m3 := b3_init) T.A_Network___init__.F T.N sc_Network___init__ rfl rfl (fun cdv A outer s H E hr => ⟨_, _, _, (ds_if (dt_lt (de_var 1) de_int) (dss_one ds_never) dss_nil), (ds_set 3 ND (de_tuple (K := K) rfl (by rfl) T.z_tuple (da_cons (de_lc (own := [("i", 4), ("j", 5)]) (js := [4, 5]) rfl ND (di_seq (w := true) (K := K) rfl (de_var 2)) (blkOk_by (N := n_Network___init__) (sc := defScope s_Network___init__) (by decide +kernel)) (fun _ _ _ _ _ => (dg_tup (K := K) rfl rfl (dgs_cons ND (dgs_cons ND dgs_nil)))) (fun _ _ _ _ _ => dts_nil) (fun _ _ _ _ _ => (de_tup (da_cons (de_var 4) (da_cons (de_var 5) da_nil))))) da_nil))), (ds_frz 3 (ds_for PassesOwn.never rfl (di_seq (w := false) (K := K) rfl (de_var 3)) (dgs_t (K := K) rfl rfl (dgss_cons (dgs_n 4 ND) (dgss_cons (dgs_n 5 ND) dgss_nil))) (dss_one (ds_expr (de_call (ok__check_comparer T) (hr.mono (by decide)) T.A__check_comparer.m T.A__check_comparer.F.kp T.A__check_comparer.b (da_cons (de_var 1) (da_cons (de_var 4) (da_cons (de_var 5) da_nil))) (aCons_len (aCons_len (aCons_len aNil_len)))))))), ps_fld (pv 0) (pv 1) rfl, ps_fld (pv 0) (pv 3) rfl⟩) init_math
theorem ok__law_plain (T : Tx K mg) : FnOk P w K mg base CX0 1 T.A__law_plain.f T.A__law_plain.fd ["wires"] (spD ⟨T.C, K⟩ 1 f__law_plain) := by
  have ND : n__law_plain.Nodup := sc__law_plain.nd
  exact fn_ok (k := 0) T.A__law_plain.F sc__law_plain fun cdv A outer s H E hr => ⟨_, (dss_cons (ds_set 1 ND (de_lst (da_cons (de_tup da_nil) da_nil))) (dss_cons (ds_for PassesOwn.never rfl (di_r1 (w := false) (by rfl) T.z_range (da_cons (de_var 0) da_nil)) (dgs_n 2 ND) (dss_cons (ds_set 3 ND (de_lst da_nil)) (dss_cons (ds_frz 1 (ds_for PassesOwn.never rfl (di_seq (w := false) (K := K) rfl (de_var 1)) (dgs_n 4 ND) (dss_one (ds_set 3 ND (de_add (K := K) rfl (de_var 3) (de_lst (da_cons (de_add (K := K) rfl (de_var 4) (de_tup (da_cons de_int da_nil))) (da_cons (de_add (K := K) rfl (de_var 4) (de_tup (da_cons de_int da_nil))) da_nil)))))))) (dss_one (ds_frz 3 (ds_set 1 ND (de_var 3))))))) (dss_one (ds_ret (de_var 1)))))⟩
theorem ok__law_row (T : Tx K mg) : FnOk P w K mg base CX0 1 T.A__law_row.f T.A__law_row.fd ["numbers", "place", "wires"] (spD ⟨T.C, K⟩ 3 f__law_row_k26) := by
  have ND : n__law_row.Nodup := sc__law_row.nd
  exact fn_ok (k := 0) T.A__law_row.F sc__law_row fun cdv A outer s H E hr => ⟨_, (dss_cons (ds_set 3 ND (de_ix (K := K) rfl rfl (de_var 0) (de_var 1))) (dss_cons (ds_set 4 ND (de_lst da_nil)) (dss_cons (ds_for PassesOwn.never rfl (di_r1 (w := false) (by rfl) T.z_range (da_cons (de_var 2) da_nil)) (dgs_n 5 ND) (dss_cons (ds_append 4 (K := K) rfl (de_sub (de_mod (de_var 3) de_int) de_int)) (dss_one (ds_set 3 ND (de_add (K := K) rfl (de_div (de_var 3) de_int) (de_mul de_int (de_var 5))))))) (dss_cons (ds_set 6 ND (de_ix (K := K) rfl rfl (de_lst (da_cons de_int (da_cons de_int (da_cons (de_pow de_int de_int) (da_cons de_int da_nil))))) (de_mod (de_ix (K := K) rfl rfl (de_var 0) (de_add (K := K) rfl (de_var 1) de_int)) de_int))) (dss_one (ds_ret (de_tuple (K := K) rfl (by rfl) T.z_tuple (da_cons (de_lc (own := [("cell", 7)]) (js := [7]) rfl ND (di_seq (w := true) (K := K) rfl (de_var 4)) (blkOk_by (N := n__law_row) (sc := defScope s__law_row) (by decide +kernel)) (fun _ _ _ _ _ => (dg_name 7 ND)) (fun _ _ _ _ _ => dts_nil) (fun _ _ _ _ _ => (de_mul (de_var 7) (de_var 6)))) da_nil))))))))⟩
theorem ok__law_run (T : Tx K mg) : FnOk P w K mg base CX0 1 T.A__law_run.f T.A__law_run.fd ["pairs", "row"] (spD ⟨T.C, K⟩ 2 f__law_run) := by
  have ND : n__law_run.Nodup := sc__law_run.nd
  exact fn_ok (k := 0) T.A__law_run.F sc__law_run fun cdv A outer s H E hr => ⟨_, (dss_cons (ds_set 2 ND (de_list (K := K) rfl rfl (by rfl) T.z_list (da_cons (de_var 1) da_nil))) (dss_cons (ds_frz 0 (ds_for PassesOwn.never rfl (di_seq (w := false) (K := K) rfl (de_var 0)) (dgs_n 3 ND) (dss_cons (ds_set 4 ND (de_min2 rfl (by rfl) T.z_min (da_cons (de_ix (K := K) rfl rfl (de_var 2) (de_ix (K := K) rfl rfl (de_var 3) de_int)) (da_cons (de_ix (K := K) rfl rfl (de_var 2) (de_ix (K := K) rfl rfl (de_var 3) de_int)) da_nil)))) (dss_cons (ds_asg (de_max2 rfl (by rfl) T.z_max (da_cons (de_ix (K := K) rfl rfl (de_var 2) (de_ix (K := K) rfl rfl (de_var 3) de_int)) (da_cons (de_ix (K := K) rfl rfl (de_var 2) (de_ix (K := K) rfl rfl (de_var 3) de_int)) da_nil))) (dgs_ix 2 (de_ix (K := K) rfl rfl (de_var 3) de_int))) (dss_one (ds_asg (de_var 4) (dgs_ix 2 (de_ix (K := K) rfl rfl (de_var 3) de_int)))))))) (dss_one (ds_ret (de_tuple (K := K) rfl (by rfl) T.z_tuple (da_cons (de_var 2) da_nil))))))⟩
theorem ok_plain_rows (T : Tx K mg) : FnOk P w K mg base CX0 1 T.A_plain_rows.f T.A_plain_rows.fd ["wires"] (spD ⟨T.C, K⟩ 1 f_plain_rows) := by
  have ND : n_plain_rows.Nodup := sc_plain_rows.nd
  exact fn_ok (k := 0) T.A_plain_rows.F sc_plain_rows fun cdv A outer s H E hr => ⟨_, (dss_cons (ds_set 1 ND (de_lst (da_cons (de_tup da_nil) da_nil))) (dss_cons (ds_for PassesOwn.never rfl (di_r1 (w := false) (by rfl) T.z_range (da_cons (de_var 0) da_nil)) (dgs_n 2 ND) (dss_one (ds_setLc2 1 (own := [("row", 3), ("number", 4)]) (js := [3]) (vs1 := [4]) rfl ND (di_seq (w := true) (K := K) rfl (de_var 1)) (blkOk_by (N := n_plain_rows) (sc := defScope s_plain_rows) (by decide +kernel)) (fun _ _ _ _ _ => (dg_name 3 ND)) (fun _ _ _ _ _ => dts_nil) (fun _ _ _ _ _ => (di_seq (w := false) (K := K) rfl (de_tup (da_cons de_int (da_cons de_int da_nil))))) (fun _ _ _ _ _ => (dg_name 4 ND)) (fun _ _ _ _ _ => dts_nil) (fun _ _ _ _ _ => (de_add (K := K) rfl (de_var 3) (de_tup (da_cons (de_var 4) da_nil))))))) (dss_one (ds_ret (de_var 1)))))⟩
theorem ok_Network_run (T : Tx K mg) : FnOk P w K mg base CX0 1 T.A_Network_run.f T.A_Network_run.fd ["self", "row"] (spD ⟨T.C, K⟩ 2 f_Network_run) := by
  have ND : n_Network_run.Nodup := sc_Network_run.nd
  exact fn_ok (k := 0) T.A_Network_run.F sc_Network_run fun cdv A outer s H E hr => ⟨_, (dss_cons (ds_set 2 ND (de_list (K := K) rfl rfl (by rfl) T.z_list (da_cons (de_var 1) da_nil))) (dss_cons (ds_for PassesOwn.never rfl (di_seq (w := false) (K := K) rfl (de_comps T.N (K := K) rfl (de_var 0))) (dgs_t (K := K) rfl rfl (dgss_cons (dgs_n 3 ND) (dgss_cons (dgs_n 4 ND) dgss_nil))) (dss_one (ds_if (dt_lt (de_ix (K := K) rfl rfl (de_var 2) (de_var 4)) (de_ix (K := K) rfl rfl (de_var 2) (de_var 3))) (dss_one (ds_asg (de_tup (da_cons (de_ix (K := K) rfl rfl (de_var 2) (de_var 4)) (da_cons (de_ix (K := K) rfl rfl (de_var 2) (de_var 3)) da_nil))) (dgs_t (K := K) rfl rfl (dgss_cons (dgs_ix 2 (de_var 3)) (dgss_cons (dgs_ix 2 (de_var 4)) dgss_nil))))) dss_nil))) (dss_one (ds_ret (de_tuple (K := K) rfl (by rfl) T.z_tuple (da_cons (de_var 2) da_nil))))))⟩
theorem ok_parted (T : Tx K mg) : FnOk P w K mg base CX0 2 T.A_parted.f T.A_parted.fd ["network", "other"] (spD ⟨T.C, K⟩ 2 f_parted) := by
  have ND : n_parted.Nodup := sc_parted.nd
  exact fn_ok (k := 1) T.A_parted.F sc_parted fun cdv A outer s H E hr => ⟨_, (dss_cons (ds_for PassesOwn.never rfl (di_seq (w := false) (K := K) rfl (de_call (ok_plain_rows T) (hr.mono (by decide)) T.A_plain_rows.m T.A_plain_rows.F.kp T.A_plain_rows.b (da_cons (de_wires T.N (K := K) rfl (de_var 0)) da_nil) (aCons_len aNil_len))) (dgs_n 2 ND) (dss_one (ds_if (dt_ne (K := K) rfl hr (de_meth T.N T.A_Network_run (ok_Network_run T) (hr.mono (by decide)) look_run (de_var 0) (da_cons (de_var 2) da_nil) (aCons_len aNil_len)) (de_meth T.N T.A_Network_run (ok_Network_run T) (hr.mono (by decide)) look_run (de_var 1) (da_cons (de_var 2) da_nil) (aCons_len aNil_len))) (dss_one (ds_ret (de_var 2))) dss_nil))) (dss_one (ds_ret de_non)))⟩
theorem ok_law (T : Tx K mg) : FnOk P w K mg base CX0 4 T.A_law.f T.A_law.fd ["script"] (spD ⟨T.C, K⟩ 1 f_law) := by
  have ND : n_law.Nodup := sc_law.nd
  exact fn_ok (k := 3) T.A_law.F sc_law fun cdv A outer s H E hr => ⟨_, (dss_cons (ds_set 1 ND (de_call (ok__law_numbers T) (hr.mono (by decide)) T.A__law_numbers.m T.A__law_numbers.F.kp T.A__law_numbers.b (da_cons (de_var 0) (da_cons de_int da_nil)) (aCons_len (aCons_len aNil_len)))) (dss_cons (ds_frz 1 (ds_set 2 ND (de_add (K := K) rfl (de_mod (de_ix (K := K) rfl rfl (de_var 1) de_int) de_int) de_int))) (dss_cons (ds_if (dt_eq (K := K) rfl hr (de_mod (de_div (de_ix (K := K) rfl rfl (de_var 1) de_int) de_int) de_int) de_int) (dss_one (ds_set 2 ND (de_add (K := K) rfl de_int (de_mod (de_div (de_ix (K := K) rfl rfl (de_var 1) de_int) de_int) de_int)))) dss_nil) (dss_cons (ds_set 3 ND (de_call (ok__law_pairs T) (hr.mono (by decide)) T.A__law_pairs.m T.A__law_pairs.F.kp T.A__law_pairs.b (da_cons (de_var 1) (da_cons de_int (da_cons (de_var 2) (da_cons de_int (da_cons (de_eq (K := K) rfl hr (de_mod (de_ix (K := K) rfl rfl (de_var 1) de_int) de_int) de_int) da_nil))))) (aCons_len (aCons_len (aCons_len (aCons_len (aCons_len aNil_len))))))) (dss_cons (ds_if (dt_eq (K := K) rfl hr (de_mod (de_div (de_ix (K := K) rfl rfl (de_var 1) de_int) de_int) de_int) de_int) (dss_one (ds_set 3 ND (de_sl (K := K) rfl (de_mul (de_var 3) de_int) do_none (do_some de_int)))) dss_nil) (dss_cons (ds_set 4 ND (de_call (ok__law_second T) (hr.mono (by decide)) T.A__law_second.m T.A__law_second.F.kp T.A__law_second.b (da_cons (de_var 1) (da_cons (de_var 2) (da_cons (de_var 3) da_nil))) (aCons_len (aCons_len (aCons_len aNil_len))))) (dss_cons (ds_set 5 ND de_non) (dss_cons (ds_for PassesOwn.never rfl (di_rev (w := false) (K := K) rfl (by rfl) T.z_reversed (de_call (ok__law_plain T) (hr.mono (by decide)) T.A__law_plain.m T.A__law_plain.F.kp T.A__law_plain.b (da_cons (de_var 2) da_nil) (aCons_len aNil_len))) (dgs_n 6 ND) (dss_one (ds_if (dt_ne (K := K) rfl hr (de_call (ok__law_run T) (hr.mono (by decide)) T.A__law_run.m T.A__law_run.F.kp T.A__law_run.b (da_cons (de_var 3) (da_cons (de_var 6) da_nil)) (aCons_len (aCons_len aNil_len))) (de_call (ok__law_run T) (hr.mono (by decide)) T.A__law_run.m T.A__law_run.F.kp T.A__law_run.b (da_cons (de_var 4) (da_cons (de_var 6) da_nil)) (aCons_len (aCons_len aNil_len)))) (dss_one (ds_frz 6 (ds_set 5 ND (de_var 6)))) dss_nil))) (dss_cons (ds_set 7 ND (de_net T.M (ok_Network___init__ T) (hr.mono (by decide)) T.mgN (da_cons (de_var 2) (da_cons (de_var 3) da_nil)))) (dss_cons (ds_set 8 ND (de_net T.M (ok_Network___init__ T) (hr.mono (by decide)) T.mgN (da_cons (de_var 2) (da_cons (de_var 4) da_nil)))) (dss_cons (ds_if (dw_or (dt_ne (K := K) rfl hr (de_call (ok_parted T) (hr.mono (by decide)) T.A_parted.m T.A_parted.F.kp T.A_parted.b (da_cons (de_var 7) (da_cons (de_var 8) da_nil)) (aCons_len (aCons_len aNil_len))) (de_var 5)) (dw_or (dt_ne (K := K) rfl hr (de_call (ok_parted T) (hr.mono (by decide)) T.A_parted.m T.A_parted.F.kp T.A_parted.b (da_cons (de_var 8) (da_cons (de_var 7) da_nil)) (aCons_len (aCons_len aNil_len))) (de_var 5)) (dw_or1 (dt_notN (de_call (ok_parted T) (hr.mono (by decide)) T.A_parted.m T.A_parted.F.kp T.A_parted.b (da_cons (de_var 7) (da_cons (de_var 7) da_nil)) (aCons_len (aCons_len aNil_len))) de_non)))).t (dss_one (ds_ret de_bl)) dss_nil) (dss_cons (ds_for PassesOwn.never rfl (di_r1 (w := false) (by rfl) T.z_range (da_cons de_int da_nil)) (dgs_n 9 ND) (dss_cons (ds_set 6 ND (de_call (ok__law_row T) (hr.mono (by decide)) T.A__law_row.m T.A__law_row.F.kp T.A__law_row.b (da_cons (de_var 1) (da_cons (de_add (K := K) rfl de_int (de_mul de_int (de_var 9))) (da_cons (de_var 2) da_nil))) (aCons_len (aCons_len (aCons_len aNil_len))))) (dss_one (ds_if (dw_and (dt_isN (de_var 5) de_non) (dw_and1 (dt_ne (K := K) rfl hr (de_meth T.N T.A_Network_run (ok_Network_run T) (hr.mono (by decide)) look_run (de_var 7) (da_cons (de_var 6) da_nil) (aCons_len aNil_len)) (de_meth T.N T.A_Network_run (ok_Network_run T) (hr.mono (by decide)) look_run (de_var 8) (da_cons (de_var 6) da_nil) (aCons_len aNil_len))))).t (dss_one (ds_ret de_bl)) dss_nil)))) (dss_one (ds_ret (de_or (de_isN (de_var 5) de_non) (de_one (de_and (de_isT (T := "tuple") (K := K) rfl (by rfl) T.z_isinstance (by rfl) T.z_tuple (by decide +kernel) (de_var 5)) (de_one (de_ne (K := K) rfl hr (de_meth T.N T.A_Network_run (ok_Network_run T) (hr.mono (by decide)) look_run (de_var 7) (da_cons (de_var 5) da_nil) (aCons_len aNil_len)) (de_meth T.N T.A_Network_run (ok_Network_run T) (hr.mono (by decide)) look_run (de_var 8) (da_cons (de_var 5) da_nil) (aCons_len aNil_len)))))))))))))))))))))⟩
end
theorem all_mk {l : PySem.W.OpenLaw} {w : World} {K : PySem.W.Frag} {h : Heap} {mg : Str → Option Value} {fa C f0 f1 f2 f3 f4 f5 f6 f7 f8 f9 f10 f11 : Addr} (X : K.In h) (G : h.Ns mainGlobals mg) (hfa : mg "law" = some (.ref fa))
    {od0 an0 od1 an1 od2 an2 od3 an3 od4 an4 od5 an5 od6 an6 od7 an7 od8 an8 od9 an9 od10 an10 od11 an11 : Option Addr} {sl0 sl1 sl2 sl3 sl4 sl5 sl6 sl7 sl8 sl9 sl10 sl11 : Array (Option Value)} {oc0 kV0 dc0 pm0 cd0 ct0 oc1 kV1 dc1 pm1 cd1 ct1 oc2 kV2 dc2 pm2 cd2 ct2 oc3 kV3 dc3 pm3 cd3 ct3 oc4 kV4 dc4 pm4 cd4 ct4 oc5 kV5 dc5 pm5 cd5 ct5 oc6 kV6 dc6 pm6 cd6 ct6 oc7 kV7 dc7 pm7 cd7 ct7 oc8 kV8 dc8 pm8 cd8 ct8 oc9 kV9 dc9 pm9 cd9 ct9 oc10 kV10 dc10 pm10 cd10 ct10 oc11 kV11 dc11 pm11 cd11 ct11 : Value} 
    (z_isinstance : PySem.W.nsIn K mainGlobals "isinstance" = some none)
    (z_len : PySem.W.nsIn K mainGlobals "len" = some none)
    (z_list : PySem.W.nsIn K mainGlobals "list" = some none)
    (z_max : PySem.W.nsIn K mainGlobals "max" = some none)
    (z_min : PySem.W.nsIn K mainGlobals "min" = some none)
    (z_range : PySem.W.nsIn K mainGlobals "range" = some none)
    (z_reversed : PySem.W.nsIn K mainGlobals "reversed" = some none)
    (z_tuple : PySem.W.nsIn K mainGlobals "tuple" = some none)
    (aC : PySem.W.nsIn K mainGlobals "Network" = some (some (.ref C)))
    (pg : PySem.W.plainGet K C Str.empty = true)
    (hd : PySem.W.hasDictIn K C = true)
    (po : PySem.W.plainOver K C = true)
    (sa : PySem.W.findIn K (.ref C) "__setattr__" = some (some (.builtin "object.__setattr__")))
    (nw : PySem.W.findIn K (.ref C) "wires" = some none)
    (nc : PySem.W.findIn K (.ref C) "comparers" = some none)
    (ha : PySem.W.findIn K (.ref C) "__class__" = some (some (.builtin "object.__class__")))
    (hn : PySem.W.specialIn K (.builtin "object.__class__") "__get__" = some (some (.builtin "getset_descriptor.__get__")))
    (ht : PySem.W.takesIn K (.builtin "object.__class__") = some true)
    (hm : PySem.W.mroIn K C (.type "object") = some true)
    (a0 : PySem.W.nsIn K mainGlobals "_law_numbers" = some (some (.ref f0)))
    (l0 : K.lookup f0 = some ⟨oc0, od0, .func (PySem.W.fnOf "_law_numbers" "_law_numbers" (defArgs s__law_numbers) (defBody s__law_numbers) (defScope s__law_numbers) .none kV0 dc0 pm0 an0 cd0 ct0), sl0⟩)
    (c0 : PySem.W.codeIn K cd0 "_law_numbers" = true)
    (k0 : PySem.W.keepIn K (.ref f0) = true)
    (a1 : PySem.W.nsIn K mainGlobals "_law_pairs" = some (some (.ref f1)))
    (l1 : K.lookup f1 = some ⟨oc1, od1, .func (PySem.W.fnOf "_law_pairs" "_law_pairs" (defArgs s__law_pairs) (defBody s__law_pairs) (defScope s__law_pairs) .none kV1 dc1 pm1 an1 cd1 ct1), sl1⟩)
    (c1 : PySem.W.codeIn K cd1 "_law_pairs" = true)
    (k1 : PySem.W.keepIn K (.ref f1) = true)
    (a2 : PySem.W.nsIn K mainGlobals "_law_second" = some (some (.ref f2)))
    (l2 : K.lookup f2 = some ⟨oc2, od2, .func (PySem.W.fnOf "_law_second" "_law_second" (defArgs s__law_second) (defBody s__law_second) (defScope s__law_second) .none kV2 dc2 pm2 an2 cd2 ct2), sl2⟩)
    (c2 : PySem.W.codeIn K cd2 "_law_second" = true)
    (k2 : PySem.W.keepIn K (.ref f2) = true)
    (a3 : PySem.W.nsIn K mainGlobals "_check_comparer" = some (some (.ref f3)))
    (l3 : K.lookup f3 = some ⟨oc3, od3, .func (PySem.W.fnOf "_check_comparer" "_check_comparer" (defArgs s__check_comparer) (defBody s__check_comparer) (defScope s__check_comparer) .none kV3 dc3 pm3 an3 cd3 ct3), sl3⟩)
    (c3 : PySem.W.codeIn K cd3 "_check_comparer" = true)
    (k3 : PySem.W.keepIn K (.ref f3) = true)
    (a4 : PySem.W.findIn K (.ref C) "__init__" = some (some (.ref f4)))
    (i4 : PySem.W.isFn K (.ref f4) = true)
    (l4 : K.lookup f4 = some ⟨oc4, od4, .func (PySem.W.fnOf "__init__" "Network.__init__" (defArgs s_Network___init__) (defBody s_Network___init__) (defScope s_Network___init__) .none kV4 dc4 pm4 an4 cd4 ct4), sl4⟩)
    (c4 : PySem.W.codeIn K cd4 "Network.__init__" = true)
    (k4 : PySem.W.keepIn K (.ref f4) = true)
    (a5 : PySem.W.nsIn K mainGlobals "_law_plain" = some (some (.ref f5)))
    (l5 : K.lookup f5 = some ⟨oc5, od5, .func (PySem.W.fnOf "_law_plain" "_law_plain" (defArgs s__law_plain) (defBody s__law_plain) (defScope s__law_plain) .none kV5 dc5 pm5 an5 cd5 ct5), sl5⟩)
    (c5 : PySem.W.codeIn K cd5 "_law_plain" = true)
    (k5 : PySem.W.keepIn K (.ref f5) = true)
    (a6 : PySem.W.nsIn K mainGlobals "_law_row" = some (some (.ref f6)))
    (l6 : K.lookup f6 = some ⟨oc6, od6, .func (PySem.W.fnOf "_law_row" "_law_row" (defArgs s__law_row) (defBody s__law_row) (defScope s__law_row) .none kV6 dc6 pm6 an6 cd6 ct6), sl6⟩)
    (c6 : PySem.W.codeIn K cd6 "_law_row" = true)
    (k6 : PySem.W.keepIn K (.ref f6) = true)
    (a7 : PySem.W.nsIn K mainGlobals "_law_run" = some (some (.ref f7)))
    (l7 : K.lookup f7 = some ⟨oc7, od7, .func (PySem.W.fnOf "_law_run" "_law_run" (defArgs s__law_run) (defBody s__law_run) (defScope s__law_run) .none kV7 dc7 pm7 an7 cd7 ct7), sl7⟩)
    (c7 : PySem.W.codeIn K cd7 "_law_run" = true)
    (k7 : PySem.W.keepIn K (.ref f7) = true)
    (a8 : PySem.W.nsIn K mainGlobals "plain_rows" = some (some (.ref f8)))
    (l8 : K.lookup f8 = some ⟨oc8, od8, .func (PySem.W.fnOf "plain_rows" "plain_rows" (defArgs s_plain_rows) (defBody s_plain_rows) (defScope s_plain_rows) .none kV8 dc8 pm8 an8 cd8 ct8), sl8⟩)
    (c8 : PySem.W.codeIn K cd8 "plain_rows" = true)
    (k8 : PySem.W.keepIn K (.ref f8) = true)
    (a9 : PySem.W.findIn K (.ref C) "run" = some (some (.ref f9)))
    (i9 : PySem.W.isFn K (.ref f9) = true)
    (l9 : K.lookup f9 = some ⟨oc9, od9, .func (PySem.W.fnOf "run" "Network.run" (defArgs s_Network_run) (defBody s_Network_run) (defScope s_Network_run) .none kV9 dc9 pm9 an9 cd9 ct9), sl9⟩)
    (c9 : PySem.W.codeIn K cd9 "Network.run" = true)
    (k9 : PySem.W.keepIn K (.ref f9) = true)
    (a10 : PySem.W.nsIn K mainGlobals "parted" = some (some (.ref f10)))
    (l10 : K.lookup f10 = some ⟨oc10, od10, .func (PySem.W.fnOf "parted" "parted" (defArgs s_parted) (defBody s_parted) (defScope s_parted) .none kV10 dc10 pm10 an10 cd10 ct10), sl10⟩)
    (c10 : PySem.W.codeIn K cd10 "parted" = true)
    (k10 : PySem.W.keepIn K (.ref f10) = true)
    (a11 : PySem.W.nsIn K mainGlobals "law" = some (some (.ref f11)))
    (l11 : K.lookup f11 = some ⟨oc11, od11, .func (PySem.W.fnOf "law" "law" (defArgs s_law) (defBody s_law) (defScope s_law) .none kV11 dc11 pm11 an11 cd11 ct11), sl11⟩)
    (c11 : PySem.W.codeIn K cd11 "law" = true)
    (k11 : PySem.W.keepIn K (.ref f11) = true)
    (mk : PySem.W.makesIn K C = true)
    (kc : PySem.W.keepIn K (.ref C) = true)
    : ∃ fd : FuncData, (∀ (s : Shared) (v : Value), BindsTo s fd ⟨[v], []⟩ [("script", v)]) ∧ ∀ base : Heap, K.In base → base.Ns mainGlobals mg → FnOk l.prog w K mg base CX0 4 fa fd ["script"] (spLaw K) := by
  have e := hfa.symm.trans (PySem.W.mg_of X G a11)
  cases e
  let T : Tx K mg := { C := C, z_isinstance := PySem.W.mg_none_of X G z_isinstance, z_len := PySem.W.mg_none_of X G z_len, z_list := PySem.W.mg_none_of X G z_list, z_max := PySem.W.mg_none_of X G z_max, z_min := PySem.W.mg_none_of X G z_min, z_range := PySem.W.mg_none_of X G z_range, z_reversed := PySem.W.mg_none_of X G z_reversed, z_tuple := PySem.W.mg_none_of X G z_tuple, N := ⟨⟨pg, hd, po, sa⟩, nw, nc, ha, hn, ht, hm, kit_self⟩, mgN := PySem.W.mg_of X G aC, A__law_numbers := defAt X G a0 l0 c0 k0 (fun _ _ _ _ _ _ us hl => match us, hl with | [_, _], _ => rfl), A__law_pairs := defAt X G a1 l1 c1 k1 (fun _ _ _ _ _ _ us hl => match us, hl with | [_, _, _, _, _], _ => rfl), A__law_second := defAt X G a2 l2 c2 k2 (fun _ _ _ _ _ _ us hl => match us, hl with | [_, _, _], _ => rfl), A__check_comparer := defAt X G a3 l3 c3 k3 (fun _ _ _ _ _ _ us hl => match us, hl with | [_, _, _], _ => rfl), A_Network___init__ := methAt a4 i4 l4 c4 k4 (fun _ _ _ _ _ _ us hl => match us, hl with | [_, _, _], _ => rfl), A__law_plain := defAt X G a5 l5 c5 k5 (fun _ _ _ _ _ _ us hl => match us, hl with | [_], _ => rfl), A__law_row := defAt X G a6 l6 c6 k6 (fun _ _ _ _ _ _ us hl => match us, hl with | [_, _, _], _ => rfl), A__law_run := defAt X G a7 l7 c7 k7 (fun _ _ _ _ _ _ us hl => match us, hl with | [_, _], _ => rfl), A_plain_rows := defAt X G a8 l8 c8 k8 (fun _ _ _ _ _ _ us hl => match us, hl with | [_], _ => rfl), A_Network_run := methAt a9 i9 l9 c9 k9 (fun _ _ _ _ _ _ us hl => match us, hl with | [_, _], _ => rfl), A_parted := defAt X G a10 l10 c10 k10 (fun _ _ _ _ _ _ us hl => match us, hl with | [_, _], _ => rfl), A_law := defAt X G a11 l11 c11 k11 (fun _ _ _ _ _ _ us hl => match us, hl with | [_], _ => rfl), M := ⟨mk, a4, i4, kc⟩ }
  exact ⟨PySem.W.fnOf "law" "law" (defArgs s_law) (defBody s_law) (defScope s_law) .none kV11 dc11 pm11 an11 cd11 ct11, fun s v => .of_eq rfl, fun base _ _ => law_imp (ok_law T) law_true⟩
end Lw
open PySem PySem.W PyProof.Rows
set_option maxRecDepth 100000 in
set_option maxHeartbeats 0 in
theorem PySem.Challenge.cw_neededrows_k26_parted_networks_holds : PySem.Challenge.rw_neededrows_k26_parted_networks.Holds := by
  w_on; o_law; k_head; (case hw => w_witness2)
  k_fill
  refine L2.walk_of (l := PySem.Challenge.rw_neededrows_k26_parted_networks) (n := 63) (k := 4) (x := "script") (CX := fun _ => L2.CX0) (sp := fun w => Dt.spLaw _) rfl (by decide) rfl ⟨rfl, by decide, by decide⟩ (fun w h Y => PySem.W.kIn_of Y) ?F (fun _ _ a ns hl ho hS => ⟨a, ns, rfl, Dt.frz_of ho hS, hl, fun _ => rfl⟩) (fun _ _ _ _ _ h => h)
  case F =>
    intro w mg fa h KX G hmg
    refine' Lw.all_mk KX G hmg ?z_isinstance ?z_len ?z_list ?z_max ?z_min ?z_range ?z_reversed ?z_tuple ?aC ?pg ?hd ?po ?sa ?nw ?nc ?ha ?hn ?ht ?hm ?a0 ?l0 ?c0 ?k0 ?a1 ?l1 ?c1 ?k1 ?a2 ?l2 ?c2 ?k2 ?a3 ?l3 ?c3 ?k3 ?a4 ?i4 ?l4 ?c4 ?k4 ?a5 ?l5 ?c5 ?k5 ?a6 ?l6 ?c6 ?k6 ?a7 ?l7 ?c7 ?k7 ?a8 ?l8 ?c8 ?k8 ?a9 ?i9 ?l9 ?c9 ?k9 ?a10 ?l10 ?c10 ?k10 ?a11 ?l11 ?c11 ?k11 ?mk ?kc
    (case z_isinstance => k_is)
    (case z_len => k_is)
    (case z_list => k_is)
    (case z_max => k_is)
    (case z_min => k_is)
    (case z_range => k_is)
    (case z_reversed => k_is)
    (case z_tuple => k_is)
    (case aC => k_is)
    (case pg => k_is)
    (case hd => k_is)
    (case po => k_is)
    (case sa => k_is)
    (case nw => k_is)
    (case nc => k_is)
    (case ha => k_is)
    (case hn => k_is)
    (case ht => k_is)
    (case hm => k_is)
    (case a0 => k_is)
    (case l0 => k_is)
    (case c0 => k_is)
    (case k0 => k_is)
    (case a1 => k_is)
    (case l1 => k_is)
    (case c1 => k_is)
    (case k1 => k_is)
    (case a2 => k_is)
    (case l2 => k_is)
    (case c2 => k_is)
    (case k2 => k_is)
    (case a3 => k_is)
    (case l3 => k_is)
    (case c3 => k_is)
    (case k3 => k_is)
    (case a4 => k_is)
    (case i4 => k_is)
    (case l4 => k_is)
    (case c4 => k_is)
    (case k4 => k_is)
    (case a5 => k_is)
    (case l5 => k_is)
    (case c5 => k_is)
    (case k5 => k_is)
    (case a6 => k_is)
    (case l6 => k_is)
    (case c6 => k_is)
    (case k6 => k_is)
    (case a7 => k_is)
    (case l7 => k_is)
    (case c7 => k_is)
    (case k7 => k_is)
    (case a8 => k_is)
    (case l8 => k_is)
    (case c8 => k_is)
    (case k8 => k_is)
    (case a9 => k_is)
    (case i9 => k_is)
    (case l9 => k_is)
    (case c9 => k_is)
    (case k9 => k_is)
    (case a10 => k_is)
    (case l10 => k_is)
    (case c10 => k_is)
    (case k10 => k_is)
    (case a11 => k_is)
    (case l11 => k_is)
    (case c11 => k_is)
    (case k11 => k_is)
    (case mk => k_is)
    (case kc => k_is)
